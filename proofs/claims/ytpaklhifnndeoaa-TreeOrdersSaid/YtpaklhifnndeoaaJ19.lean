import Derived.Test.YtpaklhifnndeoaaJTqr
/- Of a claim's texts, joined: Tqs Tqt. No statement but in the last. -/
section
namespace Go.Proofs.Ytpaklhifnndeoaa
open Go.RowKit
set_option linter.unusedVariables false

theorem partsM_at {l : List (List UInt8 × Tr)} {k : Nat} {y : List UInt8 × Tr} (h : l[k]? = some y) : (partsM l).drop k = (measT y.2, lowT y.2) :: (partsM l).drop (k + 1) := by
  have hk := (List.getElem?_eq_some_iff.1 h).1
  have h2 := (List.getElem?_eq_some_iff.1 h).2
  unfold partsM
  rw [List.drop_eq_getElem_cons (by rw [List.length_map]; exact hk)]
  congr 1
  simp [h2]
set_option maxRecDepth 100000 in
set_option maxHeartbeats 16000000 in
theorem trMeasure_branch (F : Nat → Prop) (x : NDV) (p : Int) (l : List (List UInt8 × Tr)) (w : World) (h : RepT F w x (.branch p l)) (hb : BndN 100 (.branch p l)) (hbk : ∀ y ∈ l, BndN 100 y.2) (hdep : ∀ y ∈ l, ∀ e, measT y.2 = some e → e.h ≤ 100000)
    (ih : ∀ y ∈ l, ∀ (F : Nat → Prop) (x : NDV) (w : World), RepT F w x y.2 → Calls Try.prog 50 #[ndV x] w fun e w' => e = .returned (tellM (measT y.2)) ∧ Below w.heap.size w w') :
    Calls Try.prog 50 #[ndV x] w fun e w' => e = .returned (tellM (measT (.branch p l))) ∧ Below w.heap.size w w' := by
  obtain ⟨hp, hlf, hk, hv, ks, hd, hdb⟩ := repT_rowB.1 h
  obtain ⟨V, hV⟩ : ∃ W, (w.alloc (.cells #[.int .i64 x.p, .bool x.lf, .slice x.kA x.kn x.kc, .slice x.vA x.vn x.vc, .slice x.dA x.dn x.dc] 29)).alloc (.cells #[.string ⟨#[]⟩, .string ⟨#[]⟩, .int .i64 0] 88) = W := ⟨_, rfl⟩
  have hB0 : Below w.heap.size w V := hV ▸ (((Below.refl _ w).alloc (Nat.le_refl _) _).alloc (by simp) _)
  have hX1 : Has V w.heap.size 29 #[.int .i64 x.p, .bool x.lf, .slice x.kA x.kn x.kc, .slice x.vA x.vn x.vc, .slice x.dA x.dn x.dc] := hV ▸ (Has.made w 29 _).alloc _
  have hX2 : Has V (w.heap.size + 1) 88 #[.string ⟨#[]⟩, .string ⟨#[]⟩, .int .i64 0] := hV ▸ (by have := Has.made (w.alloc (.cells #[.int .i64 x.p, .bool x.lf, .slice x.kA x.kn x.kc, .slice x.vA x.vn x.vc, .slice x.dA x.dn x.dc] 29)) 88 #[.string ⟨#[]⟩, .string ⟨#[]⟩, .int .i64 0]; simpa using this)
  obtain ⟨P1, hP1⟩ : ∃ P, w.heap.size = P := ⟨_, rfl⟩
  obtain ⟨P2, hP2⟩ : ∃ P, P1 + 1 = P := ⟨_, rfl⟩
  rw [hP1] at hX1
  rw [hP1, hP2] at hX2
  have HSO := Lib.hid (trIsSound_branch F x p l V (h.stay hB0) hb)
  obtain ⟨xp, xlf, kA, kn, kc, vA, vn, vc, dA, dn, dc⟩ := x
  simp only at hp hlf hk hv hd hV hX1
  subst hp hlf
  obtain rfl : vn = 0 := hv.zero (by omega)
  unfold ndV at HSO ⊢
  simp only at HSO ⊢
  have e1 : kn = l.length := by have := hk.len; simpa using this.symm
  have e2 : dn = l.length := by rw [hd.lenS ndL_len (by omega), hdb.1]
  have x10 := hX1.cell 0
  have x11 := hX1.cell 1
  have x12 := hX1.cell 2
  have x13 := hX1.cell 3
  have x14 := hX1.cell 4
  have HX1 := Lib.hid hX1
  have HX2 := Lib.hid hX2
  have HB0 := Lib.hid hB0
  have HORD : Hid (w.heap.size = P1 ∧ P1 < P2 ∧ P2 < V.heap.size) := Lib.hid ⟨hP1, by omega, hX2.lt⟩
  have hl1 : l.length ≤ 100 := hb.1
  rw [measT_branch]
  obtain ⟨b, hsb⟩ : ∃ b, soundT (.branch xp l) = b := ⟨_, rfl⟩
  rw [hsb] at HSO ⊢
  cases b
  · rw [if_neg (by decide)]
    have HRN : Hid (tellM none = .tuple #[.agg #[.string ⟨#[]⟩, .string ⟨#[]⟩, .int .i64 0], .bool false]) := Lib.hid rfl
    clear h hb hbk hdep ih hk hv hd hdb hX1 hX2 hB0 hsb e1 e2 hl1
    go_enter Try.func50, Try.ntmps50
    go_wp2_with (go_at_call 67; (with_reducible refine HSO.out.mono ?_); rintro e6 w6 ⟨rfl, b6⟩; have B6 := Lib.hid b6; have z := HX2.out.below b6 HX2.out.lt; have q0 := z.cell 0; have q1 := z.cell 1; have q2 := z.cell 2; have f0 := z.free 0; have f1 := z.free 1; have f2 := z.free 2; have Z2 := Lib.hid z; clear b6 z)
    have XE := has_st3 Z2.out (.string ⟨#[]⟩) (.string ⟨#[]⟩) (.int .i64 0)
    have e0 := XE.cell 0
    have e1 := XE.cell 1
    have e2 := XE.cell 2
    simp at e0 e1 e2
    have hord := HORD.out
    refine ⟨rfl, .tuple #[.agg #[.string ⟨#[]⟩, .string ⟨#[]⟩, .int .i64 0], .bool false], ?_, by rw [HRN.out], ?_⟩
    · simp [results, Try.f50, go_sem, e0, e1, e2]
    · exact below_st3 (below_step HB0.out B6.out) (by omega) _ _ _
  · rw [if_pos rfl]
    obtain ⟨r, hr⟩ : ∃ r, foldM (l.map (·.1)) 0 ⟨[], [], 0⟩ (partsM l) = r := ⟨_, rfl⟩
    rw [hr]
    have HR := Lib.hid hr
    have HN : Hid (dn = l.length ∧ kn = l.length ∧ l.length ≤ 100) := Lib.hid ⟨e2, e1, hl1⟩
    have HD := Lib.hid hd
    have HK := Lib.hid hk
    have HDB := Lib.hid hdb
    have HIH0 := Lib.hid ih
    have HBK := Lib.hid hbk
    have HDP := Lib.hid hdep
    have hdn : dn ≤ 100 := by omega
    clear h hb hbk hdep ih hk hv hd hdb hX1 hX2 hB0 hsb e1 e2 hl1 hr
    go_enter Try.func50, Try.ntmps50
    go_wp2_with (go_at_call 67; (with_reducible refine HSO.out.mono ?_); rintro e6 w6 ⟨rfl, b6⟩; have B6 := Lib.hid b6; have z1 := HX1.out.below b6 HX1.out.lt; have y1 := z1.cell 1; have Z1 := Lib.hid z1; have Z2 := Lib.hid (HX2.out.below b6 HX2.out.lt); have y4 : (w6.alloc (.cells #[.string ⟨#[]⟩, .string ⟨#[]⟩, .int .i64 0] 88)).cell? ⟨P1, 4, none⟩ = some (.slice dA dn dc) := (z1.alloc _).cell 4; clear b6 z1)
    obtain ⟨W4, hW4⟩ : ∃ x, w6.alloc (.cells #[.string ⟨#[]⟩, .string ⟨#[]⟩, .int .i64 0] 88) = x := ⟨_, rfl⟩
    have b4 : Below w6.heap.size w6 W4 := hW4 ▸ (Below.refl _ w6).alloc (Nat.le_refl _) _
    have HX4a : Hid (Has W4 w6.heap.size 88 #[.string ⟨#[]⟩, .string ⟨#[]⟩, .int .i64 0]) := Lib.hid (hW4 ▸ Has.made w6 88 _)
    have HX1a := Lib.hid (Z1.out.below b4 Z1.out.lt)
    have HX2a := Lib.hid (Z2.out.below b4 Z2.out.lt)
    have HBa := Lib.hid (below_step HB0.out (below_step B6.out b4))
    have h64 : V.heap.size ≤ w6.heap.size := B6.out.size
    rw [hW4]
    obtain ⟨P4, hP4⟩ : ∃ P, w6.heap.size = P := ⟨_, rfl⟩
    rw [hP4] at HX4a h64
    try rw [hP4]
    have HO4 := Lib.hid h64
    have hze : (extL ⟨[], [], 0⟩) = #[.string ⟨#[]⟩, .string ⟨#[]⟩, .int .i64 0] := rfl
    clear hW4 hP4 b4 h64 y1 y4 x10 x11 x12 x13 x14 Z1 Z2 HX1 HX2 B6
    go_loopw [31] (fun i wr => ∃ (k : Nat) (wh : Ext), k ≤ dn ∧ i = .int .i64 (k : Int) ∧ Has wr P1 29 #[.int .i64 xp, .bool false, .slice kA kn kc, .slice vA 0 vc, .slice dA dn dc] ∧ Has wr P2 88 #[.string ⟨#[]⟩, .string ⟨#[]⟩, .int .i64 0] ∧ Has wr P4 88 (extL wh) ∧ Below w.heap.size w wr ∧ foldM (l.map (·.1)) k wh ((partsM l).drop k) = r) (fun i _ => dn - (intOf i).toNat)
    case atStart => exact ⟨0, ⟨[], [], 0⟩, Nat.zero_le _, rfl, HX1a.out, HX2a.out, HX4a.out, HBa.out, HR.out⟩
    case round =>
      obtain ⟨k, wh, hkk, rfl, hX1, hX2, hX4, hB, hf⟩ := hrel
      have hX4 : Has wr P4 88 #[.string ⟨wh.lo.toArray⟩, .string ⟨wh.hi.toArray⟩, .int .i64 (wh.h : Int)] := hX4
      have HX1r := Lib.hid hX1
      have HX2r := Lib.hid hX2
      have HX4r := Lib.hid hX4
      have HBr := Lib.hid hB
      by_cases hlt : k < dn
      · obtain ⟨y, hy⟩ : ∃ y, l[k]? = some y := ⟨_, List.getElem?_eq_getElem (by have := HN.out; omega)⟩
        obtain ⟨e, he, hey⟩ := HDB.out.at_ hy
        have hmem := List.mem_of_getElem? hy
        obtain ⟨gd, offd, rfl, _, hdc⟩ := (HD.out.below hB).atS ndL_len (by omega) he
        obtain ⟨ep, elf, ekA, ekn, ekc, evA, evn, evc, edA, edn, edc⟩ := e
        have c0 : wr.cell? ⟨gd, offd + k * 5, none⟩ = some (.int .i64 ep) := hdc 0 _ rfl
        have c1 := hdc 1 _ rfl
        have c2 := hdc 2 _ rfl
        have c3 := hdc 3 _ rfl
        have c4 := hdc 4 _ rfl
        rw [partsM_at hy] at hf
        unfold foldM at hf
        simp only at hf
        have heyr := hey.stay hB
        obtain ⟨W6, hW6⟩ : ∃ x, wr.alloc (.cells #[.int .i64 ep, .bool elf, .slice ekA ekn ekc, .slice evA evn evc, .slice edA edn edc] 29) = x := ⟨_, rfl⟩
        have b6 : Below wr.heap.size wr W6 := hW6 ▸ (Below.refl _ wr).alloc (Nat.le_refl _) _
        have HX6 : Hid (Has W6 wr.heap.size 29 #[.int .i64 ep, .bool elf, .slice ekA ekn ekc, .slice evA evn evc, .slice edA edn edc]) := Lib.hid (hW6 ▸ Has.made wr 29 _)
        have B6 := Lib.hid b6
        have x60 := HX6.out.cell 0
        have x61 := HX6.out.cell 1
        have x62 := HX6.out.cell 2
        have x63 := HX6.out.cell 3
        have x64 := HX6.out.cell 4
        obtain ⟨mt, hmt⟩ : ∃ m, measT y.2 = m := ⟨_, rfl⟩
        have HIH := Lib.hid (HIH0.out y hmem _ _ W6 (heyr.stay b6))
        have HSZ := Lib.hid (fun (w' : World) (hb : Below wr.heap.size wr w') => trSizes_any _ _ y.2 w' (heyr.stay hb) (HBK.out y hmem))
        have HLO := Lib.hid (fun (A : Option Addr) (c : Nat) (w' : World) (h : RowZ w' A (cellsN y.2) c (sizesT y.2)) => cuLow_any _ A _ c w' h (siz_tree (HBK.out y hmem)))
        have hdp := HDP.out y hmem
        obtain ⟨lo, hlo⟩ : ∃ b, lowT y.2 = b := ⟨_, rfl⟩
        have hlo2 : decide (sumZ (sizesT y.2) < 30) = lo := hlo
        rw [hlo2] at HLO
        rw [hmt] at HIH hdp hf
        rw [hlo] at hf
        unfold ndV at HIH HSZ
        simp only at HIH HSZ
        have i0 : (0 : Int) ≤ (k : Int) := by omega
        have i1 : (k : Int) < (dn : Int) := by omega
        have hkl : k < (l.map (·.1)).length := by rw [List.length_map]; have := HN.out; omega
        have HKL := Lib.hid hkl
        clear hey heyr hmem hy he hdc hX1 hX2 hX4 hB hmt hlo hlo2 b6 hkl
        cases mt with
        | none =>
          have HRN : Hid (tellM r = .tuple #[.agg #[.string ⟨#[]⟩, .string ⟨#[]⟩, .int .i64 0], .bool false]) := Lib.hid (by rw [← hf]; rfl)
          have HIH : Hid (Calls Try.prog 50 #[.agg #[.int .i64 ep, .bool elf, .slice ekA ekn ekc, .slice evA evn evc, .slice edA edn edc]] W6 fun e w' => e = .returned (.tuple #[.agg #[.string ⟨#[]⟩, .string ⟨#[]⟩, .int .i64 0], .bool false]) ∧ Below W6.heap.size W6 w') := HIH
          clear hf hdp
          go_wp2_with (go_at_call 50; (with_reducible refine (HIH.out).mono ?_); rintro e9 w9 ⟨rfl, b9⟩; have z := (HX2r.out.below (below_step B6.out b9) HX2r.out.lt).alloc (.cells #[.string ⟨#[]⟩, .string ⟨#[]⟩, .int .i64 0] 88); have q0 : (w9.alloc (.cells #[.string ⟨#[]⟩, .string ⟨#[]⟩, .int .i64 0] 88)).cell? ⟨P2, 0, none⟩ = some (.string ⟨#[]⟩) := z.cell 0; have q1 : (w9.alloc (.cells #[.string ⟨#[]⟩, .string ⟨#[]⟩, .int .i64 0] 88)).cell? ⟨P2, 1, none⟩ = some (.string ⟨#[]⟩) := z.cell 1; have q2 : (w9.alloc (.cells #[.string ⟨#[]⟩, .string ⟨#[]⟩, .int .i64 0] 88)).cell? ⟨P2, 2, none⟩ = some (.int .i64 0) := z.cell 2; have f0 := z.free 0; have f1 := z.free 1; have f2 := z.free 2; have Z2 := Lib.hid z; have HT9 : Hid (Below wr.heap.size wr (w9.alloc (.cells #[.string ⟨#[]⟩, .string ⟨#[]⟩, .int .i64 0] 88))) := Lib.hid (below_alloc' (below_step B6.out b9) _); clear b9 z)
          have XE := has_st3 Z2.out (.string ⟨#[]⟩) (.string ⟨#[]⟩) (.int .i64 0)
          have e0 := XE.cell 0
          have e1 := XE.cell 1
          have e2 := XE.cell 2
          simp at e0 e1 e2
          have hord := HORD.out
          refine ⟨rfl, .tuple #[.agg #[.string ⟨#[]⟩, .string ⟨#[]⟩, .int .i64 0], .bool false], ?_, by rw [HRN.out], ?_⟩
          · simp [results, Try.f50, go_sem, e0, e1, e2]
          · exact below_st3 (below_step HBr.out HT9.out) (by omega) _ _ _
        | some ee =>
          obtain ⟨elo, ehi, hh⟩ := ee
          have hhb : hh ≤ 100000 := hdp _ rfl
          have HBT0 := Lib.hid (fun (w' : World) (hb : Below wr.heap.size wr w') => trBetween_any F elo ehi (hh : Int) kA kn kc k (l.map (·.1)) w' (by have := (HK.out.below HBr.out).below hb; rw [List.map_map]; exact this) HKL.out (by have := HN.out; omega))
          obtain ⟨bt, hbt⟩ : ∃ b, betwT elo ehi (l.map (·.1)) k = b := ⟨_, rfl⟩
          unfold stepM at hf
          simp only at hf
          rw [hbt] at HBT0 hf
          obtain ⟨slo, hslo⟩ : ∃ s : ByteArray, (⟨elo.toArray⟩ : ByteArray) = s := ⟨_, rfl⟩
          obtain ⟨shi, hshi⟩ : ∃ s : ByteArray, (⟨ehi.toArray⟩ : ByteArray) = s := ⟨_, rfl⟩
          have HIH : Hid (Calls Try.prog 50 #[.agg #[.int .i64 ep, .bool elf, .slice ekA ekn ekc, .slice evA evn evc, .slice edA edn edc]] W6 fun e w' => e = .returned (.tuple #[.agg #[.string slo, .string shi, .int .i64 (hh : Int)], .bool true]) ∧ Below W6.heap.size W6 w') := Lib.hid (by have := HIH.out; unfold tellM at this; simp only at this; rw [hslo, hshi] at this; exact this)
          have HBT := HBT0
          rw [hslo, hshi] at HBT
          have hhw : IntKind.i64.wrap ((hh : Int) + 1) = (hh : Int) + 1 := by rw [IntWalk.i64_in _ (by omega)]
          have HSL := Lib.hid hslo
          have HSH := Lib.hid hshi
          clear HBT0 hdp hbt hslo hshi
          cases lo
          case true =>
            have HRN : Hid (tellM r = .tuple #[.agg #[.string ⟨#[]⟩, .string ⟨#[]⟩, .int .i64 0], .bool false]) := Lib.hid (by rw [← hf, if_pos (.inl rfl)]; rfl)
            clear hf
            go_wp2_with (first
              | (go_at_call 50; (with_reducible refine (HIH.out).mono ?_); rintro e9 w9 ⟨rfl, b9⟩; have T9 := below_step B6.out b9; obtain ⟨W7, hW7⟩ : ∃ x, w9.alloc (.cells #[.string slo, .string shi, .int .i64 (hh : Int)] 88) = x := ⟨_, rfl⟩; have b7 : Below w9.heap.size w9 W7 := hW7 ▸ (Below.refl _ w9).alloc (Nat.le_refl _) _; have X7 : Has W7 w9.heap.size 88 #[.string slo, .string shi, .int .i64 (hh : Int)] := hW7 ▸ Has.made w9 88 _; have T7 := below_step T9 b7; have n74 : ¬ (w9.heap.size = P4) := (by have h1 := HX4r.out.lt; have h2 := T9.size; omega); have n47 : ¬ (P4 = w9.heap.size) := (by omega); have x70 := X7.cell 0; have x71 := X7.cell 1; have x72 := X7.cell 2; have z6 := HX6.out.below (below_step b9 b7) HX6.out.lt; have v0 := z6.cell 0; have v1 := z6.cell 1; have v2 := z6.cell 2; have v3 := z6.cell 3; have v4 := z6.cell 4; have Z6 := Lib.hid z6; have HT7 := Lib.hid T7; have HX7 := Lib.hid X7; clear b9 T9 b7 X7 T7 z6)
              | (go_at_call 42; (with_reducible refine (HSZ.out _ HT7.out).mono ?_); rintro e8 w8 ⟨A8, c8, rfl, r8, b8⟩; have R8 := Lib.hid r8; have HT8 := Lib.hid b8; clear r8 b8)
              | (go_at_call 68; (with_reducible refine (HLO.out _ _ _ R8.out).mono ?_); rintro ea wa ⟨rfl, ba⟩; have QA := below_step HT8.out ba; have HTA := Lib.hid (below_step HT7.out QA); have z7 := HX7.out.below QA HX7.out.lt; have s0 := z7.cell 0; have s1 := z7.cell 1; have s2 := z7.cell 2; have z1 := HX1r.out.below HTA.out HX1r.out.lt; have k2 := z1.cell 2; have z2 := HX2r.out.below HTA.out HX2r.out.lt; have q0 := z2.cell 0; have q1 := z2.cell 1; have q2 := z2.cell 2; have f0 := z2.free 0; have f1 := z2.free 1; have f2 := z2.free 2; have Z2a := Lib.hid z2; have Z7a := Lib.hid z7; clear ba QA z7 z1 z2))
            have XE := has_st3 Z2a.out (.string ⟨#[]⟩) (.string ⟨#[]⟩) (.int .i64 0)
            have e0 := XE.cell 0
            have e1 := XE.cell 1
            have e2 := XE.cell 2
            simp at e0 e1 e2
            have hord := HORD.out
            refine ⟨rfl, .tuple #[.agg #[.string ⟨#[]⟩, .string ⟨#[]⟩, .int .i64 0], .bool false], ?_, by rw [HRN.out], ?_⟩
            · simp [results, Try.f50, go_sem, e0, e1, e2]
            · exact below_st3 (below_step HBr.out HTA.out) (by omega) _ _ _
          case false =>
            cases bt
            case false =>
              have HRN : Hid (tellM r = .tuple #[.agg #[.string ⟨#[]⟩, .string ⟨#[]⟩, .int .i64 0], .bool false]) := Lib.hid (by rw [← hf, if_pos (.inr rfl)]; rfl)
              clear hf
              go_wp2_with (first
                | (go_at_call 50; (with_reducible refine (HIH.out).mono ?_); rintro e9 w9 ⟨rfl, b9⟩; have T9 := below_step B6.out b9; obtain ⟨W7, hW7⟩ : ∃ x, w9.alloc (.cells #[.string slo, .string shi, .int .i64 (hh : Int)] 88) = x := ⟨_, rfl⟩; have b7 : Below w9.heap.size w9 W7 := hW7 ▸ (Below.refl _ w9).alloc (Nat.le_refl _) _; have X7 : Has W7 w9.heap.size 88 #[.string slo, .string shi, .int .i64 (hh : Int)] := hW7 ▸ Has.made w9 88 _; have T7 := below_step T9 b7; have n74 : ¬ (w9.heap.size = P4) := (by have h1 := HX4r.out.lt; have h2 := T9.size; omega); have n47 : ¬ (P4 = w9.heap.size) := (by omega); have x70 := X7.cell 0; have x71 := X7.cell 1; have x72 := X7.cell 2; have z6 := HX6.out.below (below_step b9 b7) HX6.out.lt; have v0 := z6.cell 0; have v1 := z6.cell 1; have v2 := z6.cell 2; have v3 := z6.cell 3; have v4 := z6.cell 4; have Z6 := Lib.hid z6; have HT7 := Lib.hid T7; have HX7 := Lib.hid X7; clear b9 T9 b7 X7 T7 z6)
                | (go_at_call 42; (with_reducible refine (HSZ.out _ HT7.out).mono ?_); rintro e8 w8 ⟨A8, c8, rfl, r8, b8⟩; have R8 := Lib.hid r8; have HT8 := Lib.hid b8; clear r8 b8)
                | (go_at_call 68; (with_reducible refine (HLO.out _ _ _ R8.out).mono ?_); rintro ea wa ⟨rfl, ba⟩; have QA := below_step HT8.out ba; have HTA := Lib.hid (below_step HT7.out QA); have z7 := HX7.out.below QA HX7.out.lt; have s0 := z7.cell 0; have s1 := z7.cell 1; have s2 := z7.cell 2; have z1 := HX1r.out.below HTA.out HX1r.out.lt; have k2 := z1.cell 2; have z2 := HX2r.out.below HTA.out HX2r.out.lt; have q0 := z2.cell 0; have q1 := z2.cell 1; have q2 := z2.cell 2; have f0 := z2.free 0; have f1 := z2.free 1; have f2 := z2.free 2; have Z2a := Lib.hid z2; have Z7a := Lib.hid z7; clear ba QA z7 z1 z2)
                | (go_at_call 69; (with_reducible refine (HBT.out _ HTA.out).mono ?_); rintro eb wb ⟨rfl, bb⟩; have HTB := Lib.hid (below_step HTA.out bb); have z7 := Z7a.out.below bb Z7a.out.lt; have t0 := z7.cell 0; have t1 := z7.cell 1; have t2 := z7.cell 2; have z2 := Z2a.out.below bb Z2a.out.lt; have a0 := z2.cell 0; have a1 := z2.cell 1; have a2 := z2.cell 2; have g0 := z2.free 0; have g1 := z2.free 1; have g2 := z2.free 2; have z4 := HX4r.out.below HTB.out HX4r.out.lt; have d0 := z4.cell 0; have d1 := z4.cell 1; have d2 := z4.cell 2; have m0 := z4.free 0; have m1 := z4.free 1; have m2 := z4.free 2; have Z2b := Lib.hid z2; have Z4b := Lib.hid z4; clear bb z7 z2 z4))
              have XE := has_st3 Z2b.out (.string ⟨#[]⟩) (.string ⟨#[]⟩) (.int .i64 0)
              have e0 := XE.cell 0
              have e1 := XE.cell 1
              have e2 := XE.cell 2
              simp at e0 e1 e2
              have hord := HORD.out
              refine ⟨rfl, .tuple #[.agg #[.string ⟨#[]⟩, .string ⟨#[]⟩, .int .i64 0], .bool false], ?_, by rw [HRN.out], ?_⟩
              · simp [results, Try.f50, go_sem, e0, e1, e2]
              · exact below_st3 (below_step HBr.out HTB.out) (by omega) _ _ _
            case true =>
              rw [if_neg (by simp)] at hf
              by_cases hk0 : k = 0
              · subst hk0
                have hf2 : foldM (l.map (·.1)) (0 + 1) ⟨elo, ehi, hh + 1⟩ ((partsM l).drop (0 + 1)) = r := by
                  rw [if_pos (by unfold whM; rw [if_pos rfl])] at hf
                  unfold whM at hf
                  rw [if_pos rfl] at hf
                  exact hf
                have HF := Lib.hid hf2
                clear hf hf2
                simp only [Nat.zero_mul, Nat.add_zero] at c0 c1 c2 c3 c4
                simp only [Int.ofNat_zero] at HBT
                go_wp2_with (first
                  | (go_at_call 50; (with_reducible refine (HIH.out).mono ?_); rintro e9 w9 ⟨rfl, b9⟩; have T9 := below_step B6.out b9; obtain ⟨W7, hW7⟩ : ∃ x, w9.alloc (.cells #[.string slo, .string shi, .int .i64 (hh : Int)] 88) = x := ⟨_, rfl⟩; have b7 : Below w9.heap.size w9 W7 := hW7 ▸ (Below.refl _ w9).alloc (Nat.le_refl _) _; have X7 : Has W7 w9.heap.size 88 #[.string slo, .string shi, .int .i64 (hh : Int)] := hW7 ▸ Has.made w9 88 _; have T7 := below_step T9 b7; have n74 : ¬ (w9.heap.size = P4) := (by have h1 := HX4r.out.lt; have h2 := T9.size; omega); have n47 : ¬ (P4 = w9.heap.size) := (by omega); have x70 := X7.cell 0; have x71 := X7.cell 1; have x72 := X7.cell 2; have z6 := HX6.out.below (below_step b9 b7) HX6.out.lt; have v0 := z6.cell 0; have v1 := z6.cell 1; have v2 := z6.cell 2; have v3 := z6.cell 3; have v4 := z6.cell 4; have Z6 := Lib.hid z6; have HT7 := Lib.hid T7; have HX7 := Lib.hid X7; clear b9 T9 b7 X7 T7 z6)
                  | (go_at_call 42; (with_reducible refine (HSZ.out _ HT7.out).mono ?_); rintro e8 w8 ⟨A8, c8, rfl, r8, b8⟩; have R8 := Lib.hid r8; have HT8 := Lib.hid b8; clear r8 b8)
                  | (go_at_call 68; (with_reducible refine (HLO.out _ _ _ R8.out).mono ?_); rintro ea wa ⟨rfl, ba⟩; have QA := below_step HT8.out ba; have HTA := Lib.hid (below_step HT7.out QA); have z7 := HX7.out.below QA HX7.out.lt; have s0 := z7.cell 0; have s1 := z7.cell 1; have s2 := z7.cell 2; have z1 := HX1r.out.below HTA.out HX1r.out.lt; have k2 := z1.cell 2; have z2 := HX2r.out.below HTA.out HX2r.out.lt; have q0 := z2.cell 0; have q1 := z2.cell 1; have q2 := z2.cell 2; have f0 := z2.free 0; have f1 := z2.free 1; have f2 := z2.free 2; have Z2a := Lib.hid z2; have Z7a := Lib.hid z7; clear ba QA z7 z1 z2)
                  | (go_at_call 69; (with_reducible refine (HBT.out _ HTA.out).mono ?_); rintro eb wb ⟨rfl, bb⟩; have HTB := Lib.hid (below_step HTA.out bb); have z7 := Z7a.out.below bb Z7a.out.lt; have t0 := z7.cell 0; have t1 := z7.cell 1; have t2 := z7.cell 2; have z2 := Z2a.out.below bb Z2a.out.lt; have a0 := z2.cell 0; have a1 := z2.cell 1; have a2 := z2.cell 2; have g0 := z2.free 0; have g1 := z2.free 1; have g2 := z2.free 2; have z4 := HX4r.out.below HTB.out HX4r.out.lt; have d0 := z4.cell 0; have d1 := z4.cell 1; have d2 := z4.cell 2; have m0 := z4.free 0; have m1 := z4.free 1; have m2 := z4.free 2; have Z2b := Lib.hid z2; have Z4b := Lib.hid z4; clear bb z7 z2 z4))
                have hq := has_st3 Z4b.out (.string slo) (.string ⟨#[]⟩) (.int .i64 ((hh : Int) + 1))
                have hq2 := hq.store 1 (.string shi)
                have hn1 : P1 ≠ P4 := by have := HORD.out; have := HO4.out; omega
                have hn2 : P2 ≠ P4 := by have := HORD.out; have := HO4.out; omega
                have HF4 : Hid (Has (((((wb.setCell ⟨P4, 0, none⟩ (.string slo)).setCell ⟨P4, 1, none⟩ (.string ⟨#[]⟩)).setCell ⟨P4, 2, none⟩ (.int .i64 ((hh : Int) + 1)))).setCell ⟨P4, 1, none⟩ (.string shi)) P4 88 (extL ⟨elo, ehi, hh + 1⟩)) := Lib.hid (by
                  unfold extL
                  simp only
                  rw [HSL.out, HSH.out]
                  simpa using hq2)
                have z1 := HX1r.out.below HTB.out HX1r.out.lt
                have HF1 := Lib.hid ((((z1.away (p := ⟨P4, 0, none⟩) hn1 (.string slo)).away (p := ⟨P4, 1, none⟩) hn1 (.string ⟨#[]⟩)).away (p := ⟨P4, 2, none⟩) hn1 (.int .i64 ((hh : Int) + 1))).away (p := ⟨P4, 1, none⟩) hn1 (.string shi))
                have HF2 := Lib.hid ((((Z2b.out.away (p := ⟨P4, 0, none⟩) hn2 (.string slo)).away (p := ⟨P4, 1, none⟩) hn2 (.string ⟨#[]⟩)).away (p := ⟨P4, 2, none⟩) hn2 (.int .i64 ((hh : Int) + 1))).away (p := ⟨P4, 1, none⟩) hn2 (.string shi))
                have HFB : Hid (Below w.heap.size w (((((wb.setCell ⟨P4, 0, none⟩ (.string slo)).setCell ⟨P4, 1, none⟩ (.string ⟨#[]⟩)).setCell ⟨P4, 2, none⟩ (.int .i64 ((hh : Int) + 1)))).setCell ⟨P4, 1, none⟩ (.string shi))) := Lib.hid ((below_st3 (below_step HBr.out HTB.out) (by have := HORD.out; have := HO4.out; omega) _ _ _).setCell (p := ⟨P4, 1, none⟩) (by show w.heap.size ≤ P4; have := HORD.out; have := HO4.out; omega) _)
                go_roundw
                case rel => exact ⟨1, ⟨elo, ehi, hh + 1⟩, by omega, rfl, HF1.out, HF2.out, HF4.out, HFB.out, HF.out⟩
                case measure => simp [intOf]; omega
              · have hwm : whM k wh ⟨elo, ehi, hh⟩ = wh := by unfold whM; rw [if_neg hk0]
                rw [hwm] at hf
                have hki : ¬ ((k : Int) = 0) := by omega
                by_cases hhe : hh + 1 = wh.h
                · rw [if_pos hhe] at hf
                  have hhi : (hh : Int) + 1 = (wh.h : Int) := by omega
                  have HF := Lib.hid hf
                  obtain ⟨wl, wi, hw⟩ := wh
                  simp only at hhe hhi HX4r
                  have HHE := Lib.hid hhe
                  clear hf hwm hk0 hhe
                  go_wp2_with (first
                    | (go_at_call 50; (with_reducible refine (HIH.out).mono ?_); rintro e9 w9 ⟨rfl, b9⟩; have T9 := below_step B6.out b9; obtain ⟨W7, hW7⟩ : ∃ x, w9.alloc (.cells #[.string slo, .string shi, .int .i64 (hh : Int)] 88) = x := ⟨_, rfl⟩; have b7 : Below w9.heap.size w9 W7 := hW7 ▸ (Below.refl _ w9).alloc (Nat.le_refl _) _; have X7 : Has W7 w9.heap.size 88 #[.string slo, .string shi, .int .i64 (hh : Int)] := hW7 ▸ Has.made w9 88 _; have T7 := below_step T9 b7; have n74 : ¬ (w9.heap.size = P4) := (by have h1 := HX4r.out.lt; have h2 := T9.size; omega); have n47 : ¬ (P4 = w9.heap.size) := (by omega); have x70 := X7.cell 0; have x71 := X7.cell 1; have x72 := X7.cell 2; have z6 := HX6.out.below (below_step b9 b7) HX6.out.lt; have v0 := z6.cell 0; have v1 := z6.cell 1; have v2 := z6.cell 2; have v3 := z6.cell 3; have v4 := z6.cell 4; have Z6 := Lib.hid z6; have HT7 := Lib.hid T7; have HX7 := Lib.hid X7; clear b9 T9 b7 X7 T7 z6)
                    | (go_at_call 42; (with_reducible refine (HSZ.out _ HT7.out).mono ?_); rintro e8 w8 ⟨A8, c8, rfl, r8, b8⟩; have R8 := Lib.hid r8; have HT8 := Lib.hid b8; clear r8 b8)
                    | (go_at_call 68; (with_reducible refine (HLO.out _ _ _ R8.out).mono ?_); rintro ea wa ⟨rfl, ba⟩; have QA := below_step HT8.out ba; have HTA := Lib.hid (below_step HT7.out QA); have z7 := HX7.out.below QA HX7.out.lt; have s0 := z7.cell 0; have s1 := z7.cell 1; have s2 := z7.cell 2; have z1 := HX1r.out.below HTA.out HX1r.out.lt; have k2 := z1.cell 2; have z2 := HX2r.out.below HTA.out HX2r.out.lt; have q0 := z2.cell 0; have q1 := z2.cell 1; have q2 := z2.cell 2; have f0 := z2.free 0; have f1 := z2.free 1; have f2 := z2.free 2; have Z2a := Lib.hid z2; have Z7a := Lib.hid z7; clear ba QA z7 z1 z2)
                    | (go_at_call 69; (with_reducible refine (HBT.out _ HTA.out).mono ?_); rintro eb wb ⟨rfl, bb⟩; have HTB := Lib.hid (below_step HTA.out bb); have z7 := Z7a.out.below bb Z7a.out.lt; have t0 := z7.cell 0; have t1 := z7.cell 1; have t2 := z7.cell 2; have z2 := Z2a.out.below bb Z2a.out.lt; have a0 := z2.cell 0; have a1 := z2.cell 1; have a2 := z2.cell 2; have g0 := z2.free 0; have g1 := z2.free 1; have g2 := z2.free 2; have z4 := HX4r.out.below HTB.out HX4r.out.lt; have d0 := z4.cell 0; have d1 := z4.cell 1; have d2 := z4.cell 2; have m0 := z4.free 0; have m1 := z4.free 1; have m2 := z4.free 2; have Z2b := Lib.hid z2; have Z4b := Lib.hid z4; clear bb z7 z2 z4))
                  have hq2 := Z4b.out.store 1 (.string shi)
                  have hn1 : P1 ≠ P4 := by have := HORD.out; have := HO4.out; omega
                  have hn2 : P2 ≠ P4 := by have := HORD.out; have := HO4.out; omega
                  have HF4 : Hid (Has (wb.setCell ⟨P4, 1, none⟩ (.string shi)) P4 88 (extL ⟨wl, ehi, hw⟩)) := Lib.hid (by
                    unfold extL
                    simp only
                    rw [HSH.out]
                    simpa using hq2)
                  have HF1 := Lib.hid ((HX1r.out.below HTB.out HX1r.out.lt).away (p := ⟨P4, 1, none⟩) hn1 (.string shi))
                  have HF2 := Lib.hid (Z2b.out.away (p := ⟨P4, 1, none⟩) hn2 (.string shi))
                  have HFB : Hid (Below w.heap.size w (wb.setCell ⟨P4, 1, none⟩ (.string shi))) := Lib.hid ((below_step HBr.out HTB.out).setCell (p := ⟨P4, 1, none⟩) (by show w.heap.size ≤ P4; have := HORD.out; have := HO4.out; omega) _)
                  go_roundw
                  case rel => exact ⟨k + 1, ⟨wl, ehi, hw⟩, by omega, by go_num, HF1.out, HF2.out, HF4.out, HFB.out, HF.out⟩
                  case measure => simp [intOf]; omega
                · rw [if_neg hhe] at hf
                  have hhi : ¬ ((hh : Int) + 1 = (wh.h : Int)) := by omega
                  have HRN : Hid (tellM r = .tuple #[.agg #[.string ⟨#[]⟩, .string ⟨#[]⟩, .int .i64 0], .bool false]) := Lib.hid (by rw [← hf]; rfl)
                  obtain ⟨wl, wi, hw⟩ := wh
                  simp only at hhi HX4r
                  clear hf hwm hk0 hhe
                  go_wp2_with (first
                    | (go_at_call 50; (with_reducible refine (HIH.out).mono ?_); rintro e9 w9 ⟨rfl, b9⟩; have T9 := below_step B6.out b9; obtain ⟨W7, hW7⟩ : ∃ x, w9.alloc (.cells #[.string slo, .string shi, .int .i64 (hh : Int)] 88) = x := ⟨_, rfl⟩; have b7 : Below w9.heap.size w9 W7 := hW7 ▸ (Below.refl _ w9).alloc (Nat.le_refl _) _; have X7 : Has W7 w9.heap.size 88 #[.string slo, .string shi, .int .i64 (hh : Int)] := hW7 ▸ Has.made w9 88 _; have T7 := below_step T9 b7; have n74 : ¬ (w9.heap.size = P4) := (by have h1 := HX4r.out.lt; have h2 := T9.size; omega); have n47 : ¬ (P4 = w9.heap.size) := (by omega); have x70 := X7.cell 0; have x71 := X7.cell 1; have x72 := X7.cell 2; have z6 := HX6.out.below (below_step b9 b7) HX6.out.lt; have v0 := z6.cell 0; have v1 := z6.cell 1; have v2 := z6.cell 2; have v3 := z6.cell 3; have v4 := z6.cell 4; have Z6 := Lib.hid z6; have HT7 := Lib.hid T7; have HX7 := Lib.hid X7; clear b9 T9 b7 X7 T7 z6)
                    | (go_at_call 42; (with_reducible refine (HSZ.out _ HT7.out).mono ?_); rintro e8 w8 ⟨A8, c8, rfl, r8, b8⟩; have R8 := Lib.hid r8; have HT8 := Lib.hid b8; clear r8 b8)
                    | (go_at_call 68; (with_reducible refine (HLO.out _ _ _ R8.out).mono ?_); rintro ea wa ⟨rfl, ba⟩; have QA := below_step HT8.out ba; have HTA := Lib.hid (below_step HT7.out QA); have z7 := HX7.out.below QA HX7.out.lt; have s0 := z7.cell 0; have s1 := z7.cell 1; have s2 := z7.cell 2; have z1 := HX1r.out.below HTA.out HX1r.out.lt; have k2 := z1.cell 2; have z2 := HX2r.out.below HTA.out HX2r.out.lt; have q0 := z2.cell 0; have q1 := z2.cell 1; have q2 := z2.cell 2; have f0 := z2.free 0; have f1 := z2.free 1; have f2 := z2.free 2; have Z2a := Lib.hid z2; have Z7a := Lib.hid z7; clear ba QA z7 z1 z2)
                    | (go_at_call 69; (with_reducible refine (HBT.out _ HTA.out).mono ?_); rintro eb wb ⟨rfl, bb⟩; have HTB := Lib.hid (below_step HTA.out bb); have z7 := Z7a.out.below bb Z7a.out.lt; have t0 := z7.cell 0; have t1 := z7.cell 1; have t2 := z7.cell 2; have z2 := Z2a.out.below bb Z2a.out.lt; have a0 := z2.cell 0; have a1 := z2.cell 1; have a2 := z2.cell 2; have g0 := z2.free 0; have g1 := z2.free 1; have g2 := z2.free 2; have z4 := HX4r.out.below HTB.out HX4r.out.lt; have d0 := z4.cell 0; have d1 := z4.cell 1; have d2 := z4.cell 2; have m0 := z4.free 0; have m1 := z4.free 1; have m2 := z4.free 2; have Z2b := Lib.hid z2; have Z4b := Lib.hid z4; clear bb z7 z2 z4))
                  have XE := has_st3 Z2b.out (.string ⟨#[]⟩) (.string ⟨#[]⟩) (.int .i64 0)
                  have e0 := XE.cell 0
                  have e1 := XE.cell 1
                  have e2 := XE.cell 2
                  simp at e0 e1 e2
                  have hord := HORD.out
                  refine ⟨rfl, .tuple #[.agg #[.string ⟨#[]⟩, .string ⟨#[]⟩, .int .i64 0], .bool false], ?_, by rw [HRN.out], ?_⟩
                  · simp [results, Try.f50, go_sem, e0, e1, e2]
                  · exact below_st3 (below_step HBr.out HTB.out) (by omega) _ _ _
      · have hkn : k = dn := by omega
        have i1 : ¬ (k : Int) < (dn : Int) := by omega
        obtain ⟨wl, wi, hw⟩ := wh
        have hdr : (partsM l).drop k = [] := List.drop_of_length_le (by unfold partsM; rw [List.length_map]; have := HN.out; omega)
        rw [hdr] at hf
        obtain ⟨slo, hslo⟩ : ∃ s : ByteArray, (⟨wl.toArray⟩ : ByteArray) = s := ⟨_, rfl⟩
        obtain ⟨shi, hshi⟩ : ∃ s : ByteArray, (⟨wi.toArray⟩ : ByteArray) = s := ⟨_, rfl⟩
        have HRN : Hid (tellM r = .tuple #[.agg #[.string slo, .string shi, .int .i64 (hw : Int)], .bool true]) := Lib.hid (by rw [← hf, ← hslo, ← hshi]; rfl)
        simp only at hX4
        rw [hslo, hshi] at hX4
        have d0 := hX4.cell 0
        have d1 := hX4.cell 1
        have d2 := hX4.cell 2
        have q0 := hX2.cell 0
        have q1 := hX2.cell 1
        have q2 := hX2.cell 2
        have f0 := hX2.free 0
        have f1 := hX2.free 1
        have f2 := hX2.free 2
        clear hX1 hX2 hX4 hB hf hdr hkn hslo hshi HX4r
        go_wp2
        have XE := has_st3 HX2r.out (.string slo) (.string shi) (.int .i64 (hw : Int))
        have e0 := XE.cell 0
        have e1 := XE.cell 1
        have e2 := XE.cell 2
        simp at e0 e1 e2
        have hord := HORD.out
        refine ⟨rfl, .tuple #[.agg #[.string slo, .string shi, .int .i64 (hw : Int)], .bool true], ?_, by rw [HRN.out], ?_⟩
        · simp [results, Try.f50, go_sem, e0, e1, e2]
        · have hb2 := HBr.out
          rw [hP1] at hb2
          exact below_st3 hb2 (show P1 ≤ P2 by omega) _ _ _
end Go.Proofs.Ytpaklhifnndeoaa
end

section
namespace Go.Proofs.Ytpaklhifnndeoaa
open Go.RowKit
set_option linter.unusedVariables false

inductive ChkT : Tr → Prop where
  | leaf (p : Int) (l : List Lf) (h : BndN 100 (.leaf p l)) (h2 : ∀ y ∈ l, y.pg.length ≤ 1000) : ChkT (.leaf p l)
  | branch (p : Int) (l : List (List UInt8 × Tr)) (h : BndN 100 (.branch p l)) (h2 : ∀ y ∈ l, ChkT y.2) : ChkT (.branch p l)
theorem ChkT.bnd {t : Tr} (h : ChkT t) : BndN 100 t := by cases h <;> assumption
theorem trMeasure_any : ∀ (t : Tr), ChkT t → ∀ n, n ≤ 100000 → DepT n t → ∀ (F : Nat → Prop) (x : NDV) (w : World), RepT F w x t → Calls Try.prog 50 #[ndV x] w fun e w' => e = .returned (tellM (measT t)) ∧ Below w.heap.size w w' := by
  intro t
  induction t using Tr.ind with
  | hl p l =>
    intro hc n _ _ F x w h
    cases hc with
    | leaf _ _ h1 h2 => exact trMeasure_leaf F x p l w h h1 h2
  | hb p l ih =>
    intro hc n hn hd F x w h
    cases hc with
    | branch _ _ h1 h2 =>
      cases hd with
      | branch n _ _ hd =>
        exact trMeasure_branch F x p l w h h1 (fun y hy => (h2 y hy).bnd) (fun y hy e he => by have := meas_dep y.2 n e (hd y hy) he; omega) (fun y hy F x w hr => ih y hy (h2 y hy) n (by omega) (hd y hy) F x w hr)
def emptyT : Tr → Bool
  | .leaf p l => decide (p = 0) && decide (l.length = 0)
  | .branch _ _ => false
theorem trIsEmpty_any (F : Nat → Prop) (x : NDV) (t : Tr) (w : World) (h : RepT F w x t) : Calls Try.prog 49 #[ndV x] w fun e w' => e = .returned (.bool (emptyT t)) ∧ Below w.heap.size w w' := by
  obtain ⟨V, hV⟩ : ∃ W, w.alloc (.cells #[.int .i64 x.p, .bool x.lf, .slice x.kA x.kn x.kc, .slice x.vA x.vn x.vc, .slice x.dA x.dn x.dc] 29) = W := ⟨_, rfl⟩
  have HB : Hid (Below w.heap.size w V) := Lib.hid (hV ▸ (Below.refl _ w).alloc (Nat.le_refl _) _)
  have hX : Has V w.heap.size 29 #[.int .i64 x.p, .bool x.lf, .slice x.kA x.kn x.kc, .slice x.vA x.vn x.vc, .slice x.dA x.dn x.dc] := hV ▸ Has.made w 29 _
  cases t with
  | branch p l =>
    obtain ⟨hp, hlf, _⟩ := repT_rowB.1 h
    obtain ⟨xp, xlf, kA, kn, kc, vA, vn, vc, dA, dn, dc⟩ := x
    simp only at hp hlf hV hX
    subst hp hlf
    unfold ndV
    simp only
    have HE : Hid (emptyT (.branch xp l) = false) := Lib.hid rfl
    rw [HE.out]
    have x1 := hX.cell 1
    clear h hX
    go_enter Try.func49, Try.ntmps49
    go_wp2
    go_ret
    exact ⟨rfl, HB.out⟩
  | leaf p l =>
    obtain ⟨hp, hlf, hk, ⟨vs, hv, hvb⟩, hd⟩ := repT_rowL.1 h
    obtain ⟨xp, xlf, kA, kn, kc, vA, vn, vc, dA, dn, dc⟩ := x
    simp only at hp hlf hk hv hd hV hX
    subst hp hlf
    obtain rfl : dn = 0 := hd.zero (by omega)
    have e1 : kn = l.length := by have := hk.len; simpa using this.symm
    have e2 : vn = l.length := by rw [hv.lenS veL_len (by omega), hvb.1]
    unfold ndV
    simp only
    have HE : Hid (emptyT (.leaf xp l) = (decide (xp = 0) && decide (kn = 0))) := Lib.hid (by rw [e1]; rfl)
    rw [HE.out]
    have x0 := hX.cell 0
    have x1 := hX.cell 1
    have x2 := hX.cell 2
    have x3 := hX.cell 3
    have x4 := hX.cell 4
    obtain rfl : vn = kn := by omega
    clear h hX hk hv hvb hd HE e1 e2
    by_cases h0 : xp = 0
    · subst h0
      by_cases hn : vn = 0
      · subst hn
        go_enter Try.func49, Try.ntmps49
        go_wp2
        go_ret
        exact ⟨rfl, HB.out⟩
      · have hni : ((vn : Int) == 0) = false := by simpa using hn
        rw [decide_eq_false hn]
        go_enter Try.func49, Try.ntmps49
        go_wp2
        go_ret
        exact ⟨rfl, HB.out⟩
    · have h0i : (xp == 0) = false := by simpa using h0
      rw [decide_eq_false h0]
      go_enter Try.func49, Try.ntmps49
      go_wp2
      go_ret
      exact ⟨rfl, HB.out⟩
def checkC (t : Tr) : Bool := emptyT t || (measT t).isSome
set_option maxRecDepth 100000 in
set_option maxHeartbeats 4000000 in
theorem trCheck_any (F : Nat → Prop) (x : NDV) (t : Tr) (w : World) (h : RepT F w x t) (hc : ChkT t) (n : Nat) (hn : n ≤ 100000) (hd : DepT n t) : Calls Try.prog 24 #[ndV x] w fun e w' => e = .returned (.bool (checkC t)) ∧ Below w.heap.size w w' := by
  obtain ⟨V, hV⟩ : ∃ W, w.alloc (.cells #[.int .i64 x.p, .bool x.lf, .slice x.kA x.kn x.kc, .slice x.vA x.vn x.vc, .slice x.dA x.dn x.dc] 29) = W := ⟨_, rfl⟩
  have hB0 : Below w.heap.size w V := hV ▸ (Below.refl _ w).alloc (Nat.le_refl _) _
  have HB0 := Lib.hid hB0
  have hX : Has V w.heap.size 29 #[.int .i64 x.p, .bool x.lf, .slice x.kA x.kn x.kc, .slice x.vA x.vn x.vc, .slice x.dA x.dn x.dc] := hV ▸ Has.made w 29 _
  have HEM := Lib.hid (trIsEmpty_any F x t V (h.stay hB0))
  have HME := Lib.hid (fun (w' : World) (hb : Below w.heap.size w w') => trMeasure_any t hc n hn hd F x w' (h.stay hb))
  obtain ⟨xp, xlf, kA, kn, kc, vA, vn, vc, dA, dn, dc⟩ := x
  unfold ndV at HEM HME ⊢
  simp only at HEM HME hV hX ⊢
  obtain ⟨P1, hP1⟩ : ∃ P, w.heap.size = P := ⟨_, rfl⟩
  rw [hP1] at hX
  have x0 := hX.cell 0
  have x1 := hX.cell 1
  have x2 := hX.cell 2
  have x3 := hX.cell 3
  have x4 := hX.cell 4
  have HX := Lib.hid hX
  have HC : Hid (checkC t = (emptyT t || (measT t).isSome)) := Lib.hid rfl
  rw [HC.out]
  obtain ⟨b, hb⟩ : ∃ b, emptyT t = b := ⟨_, rfl⟩
  obtain ⟨m, hm⟩ : ∃ m, measT t = m := ⟨_, rfl⟩
  rw [hb] at HEM ⊢
  rw [hm] at HME ⊢
  clear h hc hn hd hB0 hX HC hb hm
  cases b
  · cases m with
    | none =>
      have HME : Hid (∀ w', Below w.heap.size w w' → Calls Try.prog 50 #[.agg #[.int .i64 xp, .bool xlf, .slice kA kn kc, .slice vA vn vc, .slice dA dn dc]] w' fun e w2 => e = .returned (.tuple #[.agg #[.string ⟨#[]⟩, .string ⟨#[]⟩, .int .i64 0], .bool false]) ∧ Below w'.heap.size w' w2) := HME
      go_enter Try.func24, Try.ntmps24
      go_wp2_with (first
        | (go_at_call 49; (with_reducible refine HEM.out.mono ?_); rintro e6 w6 ⟨rfl, b6⟩; have B6 := Lib.hid (below_step HB0.out b6); have z := HX.out.below b6 HX.out.lt; have y0 := z.cell 0; have y1 := z.cell 1; have y2 := z.cell 2; have y3 := z.cell 3; have y4 := z.cell 4; clear b6 z)
        | (go_at_call 50; (with_reducible refine (HME.out _ B6.out).mono ?_); rintro e7 w7 ⟨rfl, b7⟩; have B7 := Lib.hid (below_step B6.out b7); clear b7))
      go_ret
      exact ⟨rfl, by first | exact below_alloc' B7.out _ | (rw [← hP1]; exact below_alloc' B7.out _) | (have := below_alloc' B7.out; rw [hP1] at this; exact this _)⟩
    | some e =>
      have HME : Hid (∀ w', Below w.heap.size w w' → Calls Try.prog 50 #[.agg #[.int .i64 xp, .bool xlf, .slice kA kn kc, .slice vA vn vc, .slice dA dn dc]] w' fun e' w2 => e' = .returned (.tuple #[.agg #[.string ⟨e.lo.toArray⟩, .string ⟨e.hi.toArray⟩, .int .i64 (e.h : Int)], .bool true]) ∧ Below w'.heap.size w' w2) := HME
      go_enter Try.func24, Try.ntmps24
      go_wp2_with (first
        | (go_at_call 49; (with_reducible refine HEM.out.mono ?_); rintro e6 w6 ⟨rfl, b6⟩; have B6 := Lib.hid (below_step HB0.out b6); have z := HX.out.below b6 HX.out.lt; have y0 := z.cell 0; have y1 := z.cell 1; have y2 := z.cell 2; have y3 := z.cell 3; have y4 := z.cell 4; clear b6 z)
        | (go_at_call 50; (with_reducible refine (HME.out _ B6.out).mono ?_); rintro e7 w7 ⟨rfl, b7⟩; have B7 := Lib.hid (below_step B6.out b7); clear b7))
      go_ret
      exact ⟨rfl, by first | exact below_alloc' B7.out _ | (rw [← hP1]; exact below_alloc' B7.out _) | (have := below_alloc' B7.out; rw [hP1] at this; exact this _)⟩
  · go_enter Try.func24, Try.ntmps24
    go_wp2_with (go_at_call 49; (with_reducible refine HEM.out.mono ?_); rintro e6 w6 ⟨rfl, b6⟩; have B6 := Lib.hid (below_step HB0.out b6); clear b6)
    go_ret
    exact ⟨rfl, by first | exact B6.out | (rw [← hP1]; exact B6.out) | (have := B6.out; rw [hP1] at this; exact this)⟩
end Go.Proofs.Ytpaklhifnndeoaa
end
