import Derived.Test.YtogcbmhcddcfkaaGreatDoorJ18
/- Of a claim's texts, joined: Sho. No statement but in the last. -/
namespace Go.Proofs.YtogcbmhcddcfkaaGreatDoor
open Go.RowKit
set_option linter.unusedVariables false

def TextEnd (l : List UInt8) (w : World) (e : Ending) (w' : World) : Prop := e = .returned (.string ⟨l.toArray⟩) ∧ Below w.heap.size w w'
theorem ret_text {a b : ByteArray} (h : a = b) : Ending.returned (.string a) = .returned (.string b) := by rw [h]
theorem fits_nat {up : List Nat} {g : G} (h : fitsG up g = true) : ∃ a f t : Nat, g = ⟨a, f, t⟩ ∧ a < up.length ∧ f < up.length ∧ t < up.length := by
  obtain ⟨⟨h1, h2⟩, ⟨h3, h4⟩, h5, h6⟩ := fitsG_in h
  exact ⟨g.a.toNat, g.f.toNat, g.t.toNat, by cases g; simp at *; omega, h2, h4, h6⟩
set_option maxRecDepth 100000 in
set_option maxHeartbeats 4000000 in
theorem r5Show_any (c : Cf) (s : Cs) (w : World) (h : ArgC w s c) (hn : s.nn ≤ 1000000) (hu : s.un ≤ 1000000) :
    Calls Tryz.prog 18 #[s.v] w (TextEnd (showN c) w) := by
  have HH := Lib.hid h
  have HCk := Lib.hid (fun w1 (hb : Below w.heap.size w w1) => r5Check_any c s w1 (h.below hb) hn hu)
  clear h
  unfold Cs.v at HCk ⊢
  obtain ⟨nA, nn, nc, uA, un, uc, qA, qn, qc, gA, gn, gc⟩ := s
  simp only at HH HCk hn hu ⊢
  obtain ⟨W, hW⟩ : ∃ W, w.alloc (.cells #[.slice nA nn nc, .slice uA un uc, .slice qA qn qc, .slice gA gn gc] 28) = W := ⟨_, rfl⟩
  have hB0 : Below w.heap.size w W := hW ▸ (Below.refl _ w).alloc (Nat.le_refl _) _
  have hx1 : Has W w.heap.size 28 #[.slice nA nn nc, .slice uA un uc, .slice qA qn qc, .slice gA gn gc] := hW ▸ Has.made w 28 _
  have HX := Lib.hid (fun W' (hb : Below W.heap.size W W') => show W'.cell? ⟨w.heap.size, 0, none⟩ = some (.slice nA nn nc) ∧ W'.cell? ⟨w.heap.size, 1, none⟩ = some (.slice uA un uc) ∧ W'.cell? ⟨w.heap.size, 2, none⟩ = some (.slice qA qn qc) ∧ W'.cell? ⟨w.heap.size, 3, none⟩ = some (.slice gA gn gc) by
    have k1 := hx1.below hb hx1.lt
    rw [k1.cell, k1.cell, k1.cell, k1.cell]
    simp)
  have HB0 := Lib.hid hB0
  clear hx1 hB0
  obtain ⟨b0, b1, b2, b3⟩ := HX.out W (Below.refl _ _)
  cases hck : checkC c
  · have HE : Hid (showN c = []) := Lib.hid (by unfold showN; rw [if_neg (by rw [hck]; simp)])
    rw [hck] at HCk
    clear hck
    go_enter Tryz.func18, Tryz.ntmps18
    go_wp2_with (first
      | (go_at_call 16; (with_reducible refine (HCk.out _ HB0.out).mono ?_); rintro e w1 ⟨rfl, h1⟩; have B1 := Lib.hid (below_step HB0.out h1); clear h1))
    go_ret
    exact ⟨ret_text (by rw [HE.out]), B1.out⟩
  · have HOK := Lib.hid ((okc_iff c).1 hck)
    have HE : Hid (showN c = labsN c c.names.length ++ undsN c c.names.length ++ grasN c c.grants.length) := Lib.hid (by unfold showN; rw [if_pos hck])
    rw [hck] at HCk
    clear hck
    have HNn : Hid (nn = c.names.length) := Lib.hid HH.out.names.len
    have HUn : Hid (un = c.up.length) := Lib.hid HH.out.up.len
    have HQn : Hid (qn = c.quotas.length) := Lib.hid HH.out.quotas.len
    have HGn : Hid (gn = c.grants.length) := Lib.hid HH.out.grants.len
    have hn64 : nn ≤ 64 := by rw [HNn.out]; exact HOK.out.n64
    have hqn : nn = qn := by rw [HNn.out, HQn.out]; exact HOK.out.quo
    have hun : nn = un := by rw [HNn.out, HUn.out]; exact HOK.out.ups
    have hg64 : gn ≤ 64 := by rw [HGn.out]; exact checkG64 HOK.out.gra
    have HNC := Lib.hid (fun w1 (hb : Below w.heap.size w w1) (i : Nat) (hi : i < nn) => show ∃ g o, nA = some ⟨g, o, none⟩ ∧ w1.cell? ⟨g, o + i, none⟩ = some (.string ⟨(nmAt c i).toArray⟩) by
      have hi' : i < c.names.length := by rw [← HNn.out]; exact hi
      obtain ⟨g1, o1, e1, c1⟩ := (HH.out.below hb).names.reads.sat_ hi'
      refine ⟨g1, o1, e1, ?_⟩
      unfold nmAt
      rw [getT_at c.names i hi']
      exact c1)
    have hqq : Hid (nn = qn ∧ nn = un) := Lib.hid ⟨hqn, hun⟩
    clear hqn hun
    go_enter Tryz.func18, Tryz.ntmps18
    go_wp2_with (first
      | (go_at_call 16; (with_reducible refine (HCk.out _ HB0.out).mono ?_); rintro e w1 ⟨rfl, h1⟩; have B1 := Lib.hid (below_step HB0.out h1); have R1 := Lib.hid h1; clear b0 b1 b2 b3; clear h1))
    go_loopw [4, 5] (fun v i wr => ∃ k : Nat, k ≤ nn ∧ i = .int .i64 k ∧ v = .string ⟨(labsN c k).toArray⟩ ∧ Below w.heap.size w wr ∧ Below W.heap.size W wr) (fun _ i _ => nn - (intOf i).toNat)
    case atStart => exact ⟨0, Nat.zero_le _, rfl, rfl, B1.out, R1.out⟩
    case round =>
      obtain ⟨k, hk, rfl, rfl, hB, hR⟩ := hrel
      have BW := Lib.hid hB
      have RW := Lib.hid hR
      clear hB hR
      obtain ⟨b0, b1, b2, b3⟩ := HX.out _ RW.out
      by_cases hlt : k < nn
      · have hkn : k < c.names.length := by rw [← HNn.out]; exact hlt
        obtain ⟨ng, no, rfl, c1⟩ := HNC.out wr BW.out k hlt
        obtain ⟨qg, qo, rfl, c2⟩ := (HH.out.below BW.out).quotas.reads.zint (show k < c.quotas.length by rw [← HOK.out.quo]; exact hkn)
        have hqr := HOK.out.quota k hkn
        have hql : c.quotas.getD k 0 = c.quotas[k]'(by rw [← HOK.out.quo]; exact hkn) := by simp [List.getD, List.getElem?_eq_getElem (show k < c.quotas.length by rw [← HOK.out.quo]; exact hkn)]
        have HMore : Hid (labsN c (k + 1) = labsN c k ++ ([108, 97, 98, 101, 108, 32] ++ nmAt c k ++ [32] ++ digN (c.quotas[k]'(by rw [← HOK.out.quo]; exact hkn)).toNat ++ [10])) := Lib.hid (by rw [labsN_more]; unfold labN; rw [hql])
        have hl1 : (labsN c k).length ≤ 64 * 60 := by have := labs_len HOK.out k (by omega); omega
        have hl2 := nm_len HOK.out k
        have hl3 := digN_len (n := (c.quotas.getD k 0).toNat) (by omega)
        rw [hql] at hqr hl3
        clear hql
        have HCl := Lib.hid (fun w1 (h1 : Below wr.heap.size wr w1) => show w1.cell? ⟨ng, no + k, none⟩ = some (.string ⟨(nmAt c k).toArray⟩) ∧ w1.cell? ⟨qg, qo + k, none⟩ = some (.int .i64 (c.quotas[k]'(by rw [← HOK.out.quo]; exact hkn))) from ⟨cell_below c1 h1, cell_below c2 h1⟩)
        generalize c.quotas[k]'(by rw [← HOK.out.quo]; exact hkn) = q at c2 HMore hqr hl3 HCl
        obtain ⟨m, rfl⟩ : ∃ m : Nat, q = m := ⟨q.toNat, by omega⟩
        simp only [Int.toNat_natCast] at HMore hl3
        have HDg := Lib.hid (fun w1 => r5digits_any m w1 (by omega))
        generalize digN m = d at HDg hl3 HMore
        generalize nmAt c k = x at c1 HMore hl2 HCl
        generalize labsN c k = t at HMore hl1 ⊢
        have i0 : (0 : Int) ≤ (k : Int) := by omega
        have i1 : (k : Int) < (nn : Int) := by omega
        have i2 : (k : Int) < (qn : Int) := by have := hqq.out.1; omega
        have BD : Below wr.heap.size wr wr.drew := (Below.refl _ _).drew
        have hS : (fun w' : World => w'.cell? ⟨w.heap.size, 0, none⟩ = some (.slice (some ⟨ng, no, none⟩) nn nc) ∧ w'.cell? ⟨w.heap.size, 2, none⟩ = some (.slice (some ⟨qg, qo, none⟩) qn qc) ∧ w'.cell? ⟨ng, no + k, none⟩ = some (.string ⟨x.toArray⟩) ∧ w'.cell? ⟨qg, qo + k, none⟩ = some (.int .i64 (m : Int))) wr.drew := ⟨b0, b2, HCl.out _ BD⟩
        clear hqr
        go_wp2
        go_region_held (fun w' : World => w'.cell? ⟨w.heap.size, 0, none⟩ = some (.slice (some ⟨ng, no, none⟩) nn nc) ∧ w'.cell? ⟨w.heap.size, 2, none⟩ = some (.slice (some ⟨qg, qo, none⟩) qn qc) ∧ w'.cell? ⟨ng, no + k, none⟩ = some (.string ⟨x.toArray⟩) ∧ w'.cell? ⟨qg, qo + k, none⟩ = some (.int .i64 (m : Int))) (first | exact hS | assumption) (first
          | (go_at_call 47; (with_reducible refine (HDg.out _).mono ?_); rintro e w5 ⟨rfl, h5⟩; have H5 := Lib.hid (below_step BD h5); have R5 := Lib.hid (below_step RW.out H5.out); have B5 := Lib.hid (below_step BW.out H5.out); have hS := And.intro (HX.out _ R5.out).1 (And.intro (HX.out _ R5.out).2.2.1 (HCl.out _ H5.out)); clear h5))
        all_goals
          go_wp2
          go_roundw
          case rel => exact ⟨k + 1, by omega, by go_num, str_eq2 (by rw [HMore.out]; apply ByteArray.ext; simp), B5.out, R5.out⟩
          case measure => simp [intOf]; omega
      · obtain rfl : k = nn := by omega
        obtain ⟨T, hT⟩ : ∃ T, labsN c k = T := ⟨_, rfl⟩
        have hTl : T.length ≤ 3840 := by
          rw [← hT]
          have := labs_len HOK.out k (by rw [← HNn.out]; exact Nat.le_refl _)
          omega
        have HT := Lib.hid hT
        rw [hT]
        clear hT
        obtain ⟨wb, hwb⟩ : ∃ wb : World, wb = wr := ⟨_, rfl⟩
        subst hwb
        go_wp2
        go_loopw [4, 6] (fun v i wr => ∃ a : Nat, a ≤ k ∧ i = .int .i64 a ∧ v = .string ⟨(T ++ undsN c a).toArray⟩ ∧ Below w.heap.size w wr ∧ Below W.heap.size W wr) (fun _ i _ => k - (intOf i).toNat)
        case atStart => exact ⟨0, Nat.zero_le _, rfl, str_eq2 (by simp [undsN]), BW.out, RW.out⟩
        case round =>
          obtain ⟨a, ha, rfl, rfl, hB, hR⟩ := hrel
          have BW2 := Lib.hid hB
          have RW2 := Lib.hid hR
          clear hB hR b0 b1 b2 b3
          obtain ⟨b0, b1, b2, b3⟩ := HX.out _ RW2.out
          by_cases hak : a < k
          · have ha0 : (0 : Int) ≤ (a : Int) := by omega
            have ha1 : (a : Int) < (k : Int) := by omega
            have ha2 : (a : Int) < (un : Int) := by have := hqq.out.2; omega
            have hau : a < c.up.length := by rw [← HUn.out, ← hqq.out.2]; exact hak
            have hx64 : c.up[a] < 2 ^ 64 := HH.out.up.big _ (List.getElem_mem hau)
            have hub : ∀ b, ubit c.up a b = c.up[a].testBit b := fun b => by unfold ubit; rw [getD_at _ _ hau]
            have HUb := Lib.hid hub
            have hul := unds_len HOK.out a
            obtain ⟨T2, hT2⟩ : ∃ T2, T ++ undsN c a = T2 := ⟨_, rfl⟩
            have hT2l : T2.length ≤ 440000 := by rw [← hT2, List.length_append]; omega
            have HT2 := Lib.hid hT2
            rw [hT2]
            clear hT2 hul hub
            obtain ⟨wc, hwc⟩ : ∃ wc : World, wc = wr := ⟨_, rfl⟩
            subst hwc
            go_wp2
            go_loopw [4, 7] (fun v i wr => ∃ b : Nat, b ≤ k ∧ i = .int .i64 b ∧ v = .string ⟨(T2 ++ undR c a b).toArray⟩ ∧ Below w.heap.size w wr ∧ Below W.heap.size W wr) (fun _ i _ => k - (intOf i).toNat)
            case atStart => exact ⟨0, Nat.zero_le _, rfl, str_eq2 (by simp [undR]), BW2.out, RW2.out⟩
            case round =>
              obtain ⟨b, hbk, rfl, rfl, hB, hR⟩ := hrel
              have BW3 := Lib.hid hB
              have RW3 := Lib.hid hR
              clear hB hR b0 b1 b2 b3
              obtain ⟨b0, b1, b2, b3⟩ := HX.out _ RW3.out
              by_cases hbk2 : b < k
              · have hb0 : (0 : Int) ≤ (b : Int) := by omega
                have hb1 : (b : Int) < (k : Int) := by omega
                obtain ⟨ug, uo, rfl, cu⟩ := (HH.out.below BW3.out).up.reads.at_ hau
                have HBit := Lib.hid (fun w1 => r3Bit_any c.up[a] b w1 hx64 (by omega))
                have HMo := Lib.hid (undR_more c a b)
                have hrl := undR_len HOK.out a b
                obtain ⟨bit, hbit⟩ : ∃ bit, c.up[a].testBit b = bit := ⟨_, rfl⟩
                rw [hbit] at HBit
                have hbit2 : ubit c.up a b = bit := by rw [HUb.out, hbit]
                clear hbit
                by_cases hab : a = b
                · have q : ((a : Int) != (b : Int)) = false := by simp; omega
                  have HE2 : Hid (undR c a (b + 1) = undR c a b) := Lib.hid (by rw [HMo.out]; unfold undO; rw [if_neg (by simp [hab])]; simp)
                  clear hbit2 hrl
                  obtain ⟨w4, hw4⟩ : ∃ w4 : World, w4 = wr := ⟨_, rfl⟩
                  subst hw4
                  go_wp2
                  go_roundw
                  case rel => exact ⟨b + 1, by omega, by go_num, by rw [HE2.out], BW3.out, RW3.out⟩
                  case measure => simp [intOf]; omega
                · have q : ((a : Int) != (b : Int)) = true := by simp; omega
                  cases bit
                  · have HE2 : Hid (undR c a (b + 1) = undR c a b) := Lib.hid (by rw [HMo.out]; unfold undO; rw [if_neg (by simp [hbit2])]; simp)
                    clear hbit2 hrl
                    generalize c.up[a] = x at cu HBit
                    go_wp2_with (first
                      | (go_at_call 48; (with_reducible refine (HBit.out _).mono ?_); rintro e w' ⟨rfl, rfl⟩))
                    go_roundw
                    case rel => exact ⟨b + 1, by omega, by go_num, by rw [HE2.out], BW3.out, RW3.out⟩
                    case measure => simp [intOf]; omega
                  · have HE2 : Hid (undR c a (b + 1) = undR c a b ++ ([117, 110, 100, 101, 114, 32] ++ nmAt c a ++ [32] ++ nmAt c b ++ [10])) := Lib.hid (by rw [HMo.out]; unfold undO; rw [if_pos ⟨hab, hbit2⟩]; rfl)
                    obtain ⟨ng, no, rfl, c1⟩ := HNC.out wr BW3.out a hak
                    obtain ⟨ng', no', hne, c2⟩ := HNC.out wr BW3.out b hbk2
                    injection hne with hne
                    injection hne with hne1 hne2
                    subst hne1 hne2
                    have hl1 := nm_len HOK.out a
                    have hl2 := nm_len HOK.out b
                    have hT3l : (T2 ++ undR c a b).length ≤ 450000 := by rw [List.length_append]; omega
                    have HAss : Hid (T2 ++ undR c a (b + 1) = (T2 ++ undR c a b) ++ ([117, 110, 100, 101, 114, 32] ++ nmAt c a ++ [32] ++ nmAt c b ++ [10])) := Lib.hid (by rw [HE2.out]; exact (List.append_assoc _ _ _).symm)
                    clear hbit2 hrl
                    generalize c.up[a] = x at cu HBit
                    generalize T2 ++ undR c a b = t at HAss hT3l ⊢
                    generalize nmAt c a = x1 at c1 hl1 HAss
                    generalize nmAt c b = x2 at c2 hl2 HAss
                    have BD : Below wr.heap.size wr wr.drew := (Below.refl _ _).drew
                    have hS : (fun w' : World => w'.cell? ⟨w.heap.size, 0, none⟩ = some (.slice (some ⟨ng, no, none⟩) k nc) ∧ w'.cell? ⟨ng, no + a, none⟩ = some (.string ⟨x1.toArray⟩) ∧ w'.cell? ⟨ng, no + b, none⟩ = some (.string ⟨x2.toArray⟩)) wr.drew := ⟨b0, c1, c2⟩
                    go_wp2_with (first
                      | (go_at_call 48; (with_reducible refine (HBit.out _).mono ?_); rintro e w' ⟨rfl, rfl⟩))
                    go_region_held (fun w' : World => w'.cell? ⟨w.heap.size, 0, none⟩ = some (.slice (some ⟨ng, no, none⟩) k nc) ∧ w'.cell? ⟨ng, no + a, none⟩ = some (.string ⟨x1.toArray⟩) ∧ w'.cell? ⟨ng, no + b, none⟩ = some (.string ⟨x2.toArray⟩)) (first | exact hS | assumption) (first | fail)
                    all_goals
                      go_wp2
                      go_roundw
                      case rel => exact ⟨b + 1, by omega, by go_num, str_eq2 (by rw [HAss.out]; apply ByteArray.ext; simp), BW3.out.drew, RW3.out.drew⟩
                      case measure => simp [intOf]; omega
              · obtain rfl : b = k := by omega
                have HE2 : Hid (T ++ undsN c (a + 1) = T2 ++ undR c a b) := Lib.hid (by rw [undsN_more, ← HT2.out, ← HNn.out, List.append_assoc])
                obtain ⟨w4, hw4⟩ : ∃ w4 : World, w4 = wr := ⟨_, rfl⟩
                subst hw4
                go_wp2
                go_roundw
                case rel => exact ⟨a + 1, by omega, by go_num, str_eq2 (by rw [HE2.out]), BW3.out, RW3.out⟩
                case measure => simp [intOf]; omega
          · obtain rfl : a = k := by omega
            have hul := unds_len HOK.out a
            obtain ⟨T2, hT2⟩ : ∃ T2, T ++ undsN c a = T2 := ⟨_, rfl⟩
            have hT2l : T2.length ≤ 440000 := by rw [← hT2, List.length_append]; omega
            have HT2 := Lib.hid hT2
            rw [hT2]
            clear hT2 hul
            obtain ⟨wd, hwd⟩ : ∃ wd : World, wd = wr := ⟨_, rfl⟩
            subst hwd
            go_wp2
            go_loopw [4, 8] (fun v i wr => ∃ j : Nat, j ≤ gn ∧ i = .int .i64 j ∧ v = .string ⟨(T2 ++ grasN c j).toArray⟩ ∧ Below w.heap.size w wr ∧ Below W.heap.size W wr) (fun _ i _ => gn - (intOf i).toNat)
            case atStart => exact ⟨0, Nat.zero_le _, rfl, str_eq2 (by simp [grasN]), BW2.out, RW2.out⟩
            case round =>
              obtain ⟨j, hjg, rfl, rfl, hB, hR⟩ := hrel
              have BW3 := Lib.hid hB
              have RW3 := Lib.hid hR
              clear hB hR b0 b1 b2 b3
              obtain ⟨b0, b1, b2, b3⟩ := HX.out _ RW3.out
              by_cases hjg2 : j < gn
              · have hjl : j < c.grants.length := by rw [← HGn.out]; exact hjg2
                obtain ⟨gg, go, rfl, d1, d2, d3⟩ := (HH.out.below BW3.out).grants.reads.gat hjl
                obtain ⟨ga, gf, gt, hg, hga, hgf, hgt⟩ := fits_nat (HOK.out.fits _ (List.getElem_mem hjl))
                have HMo := Lib.hid (grasN_more c j hjl)
                have hgl := gras_len HOK.out j (by omega)
                rw [hg] at d1 d2 d3 HMo
                simp only at d1 d2 d3
                clear hg hjl
                have hkn : a = c.up.length := by rw [← HUn.out]; exact hqq.out.2
                obtain ⟨ng, no, rfl, c1⟩ := HNC.out wr BW3.out ga (by omega)
                obtain ⟨ng', no', hne, c2⟩ := HNC.out wr BW3.out gf (by omega)
                injection hne with hne
                injection hne with hne1 hne2
                subst hne1 hne2
                obtain ⟨ng', no', hne, c3⟩ := HNC.out wr BW3.out gt (by omega)
                injection hne with hne
                injection hne with hne1 hne2
                subst hne1 hne2
                have hl1 := nm_len HOK.out ga
                have hl2 := nm_len HOK.out gf
                have hl3 := nm_len HOK.out gt
                have hT3l : (T2 ++ grasN c j).length ≤ 450000 := by rw [List.length_append]; omega
                have HAss : Hid (T2 ++ grasN c (j + 1) = (T2 ++ grasN c j) ++ ([103, 114, 97, 110, 116, 32] ++ nmAt c ga ++ [32] ++ nmAt c gf ++ [32] ++ nmAt c gt ++ [10])) := Lib.hid (by rw [HMo.out, ← List.append_assoc]; rfl)
                have i1 : (ga : Int) < (a : Int) := by omega
                have i2 : (gf : Int) < (a : Int) := by omega
                have i3 : (gt : Int) < (a : Int) := by omega
                have i4 : (0 : Int) ≤ (ga : Int) := by omega
                have i5 : (0 : Int) ≤ (gf : Int) := by omega
                have i6 : (0 : Int) ≤ (gt : Int) := by omega
                have i7 : (0 : Int) ≤ (j : Int) := by omega
                have i8 : (j : Int) < (gn : Int) := by omega
                have HCl := Lib.hid (fun w1 (h1 : Below wr.heap.size wr w1) => show w1.cell? ⟨ng, no + ga, none⟩ = some (.string ⟨(nmAt c ga).toArray⟩) ∧ w1.cell? ⟨ng, no + gf, none⟩ = some (.string ⟨(nmAt c gf).toArray⟩) ∧ w1.cell? ⟨ng, no + gt, none⟩ = some (.string ⟨(nmAt c gt).toArray⟩) from ⟨cell_below c1 h1, cell_below c2 h1, cell_below c3 h1⟩)
                clear hgl hkn hga hgf hgt HMo
                generalize T2 ++ grasN c j = t at HAss hT3l ⊢
                generalize nmAt c ga = x1 at c1 hl1 HAss HCl
                generalize nmAt c gf = x2 at c2 hl2 HAss HCl
                generalize nmAt c gt = x3 at c3 hl3 HAss HCl
                have BA : Below wr.heap.size wr (wr.alloc (.cells #[.int .i64 (ga : Int), .int .i64 (gf : Int), .int .i64 (gt : Int)] 48)) := (Below.refl _ _).alloc (Nat.le_refl _) _
                have hbox := (two_boxes (g := ⟨ga, gf, gt⟩) (h := ⟨ga, gf, gt⟩) (Has.made wr 48 #[.int .i64 (ga : Int), .int .i64 (gf : Int), .int .i64 (gt : Int)]) (Has.made wr 48 #[.int .i64 (ga : Int), .int .i64 (gf : Int), .int .i64 (gt : Int)]) (Below.refl _ _).drew).1
                simp only at hbox
                have hS : (fun w' : World => (w'.cell? ⟨w.heap.size, 0, none⟩ = some (.slice (some ⟨ng, no, none⟩) a nc)) ∧ (w'.cell? ⟨wr.heap.size, 0, none⟩ = some (.int .i64 (ga : Int)) ∧ w'.cell? ⟨wr.heap.size, 1, none⟩ = some (.int .i64 (gf : Int)) ∧ w'.cell? ⟨wr.heap.size, 2, none⟩ = some (.int .i64 (gt : Int))) ∧ w'.cell? ⟨ng, no + ga, none⟩ = some (.string ⟨x1.toArray⟩) ∧ w'.cell? ⟨ng, no + gf, none⟩ = some (.string ⟨x2.toArray⟩) ∧ w'.cell? ⟨ng, no + gt, none⟩ = some (.string ⟨x3.toArray⟩)) (wr.alloc (.cells #[.int .i64 (ga : Int), .int .i64 (gf : Int), .int .i64 (gt : Int)] 48)).drew := ⟨(HX.out _ (below_step RW3.out BA.drew)).1, hbox, HCl.out _ BA.drew⟩
                have BE := Lib.hid (below_step BW3.out BA).drew
                have RE := Lib.hid (below_step RW3.out BA).drew
                clear hbox
                go_wp2
                go_region_held (fun w' : World => (w'.cell? ⟨w.heap.size, 0, none⟩ = some (.slice (some ⟨ng, no, none⟩) a nc)) ∧ (w'.cell? ⟨wr.heap.size, 0, none⟩ = some (.int .i64 (ga : Int)) ∧ w'.cell? ⟨wr.heap.size, 1, none⟩ = some (.int .i64 (gf : Int)) ∧ w'.cell? ⟨wr.heap.size, 2, none⟩ = some (.int .i64 (gt : Int))) ∧ w'.cell? ⟨ng, no + ga, none⟩ = some (.string ⟨x1.toArray⟩) ∧ w'.cell? ⟨ng, no + gf, none⟩ = some (.string ⟨x2.toArray⟩) ∧ w'.cell? ⟨ng, no + gt, none⟩ = some (.string ⟨x3.toArray⟩)) (first | exact hS | assumption) (first | fail)
                all_goals
                  go_wp2
                  go_roundw
                  case rel => exact ⟨j + 1, by omega, by go_num, str_eq2 (by rw [HAss.out]; apply ByteArray.ext; simp), BE.out, RE.out⟩
                  case measure => simp [intOf]; omega
              · obtain rfl : j = gn := by omega
                have HFin : Hid (T2 ++ grasN c j = showN c) := Lib.hid (by rw [HE.out, ← HT2.out, ← HT.out, ← HNn.out, ← HGn.out])
                obtain ⟨w4, hw4⟩ : ∃ w4 : World, w4 = wr := ⟨_, rfl⟩
                subst hw4
                go_wp2
                go_ret
                exact ⟨ret_text (by rw [HFin.out]), BW3.out⟩

end Go.Proofs.YtogcbmhcddcfkaaGreatDoor
