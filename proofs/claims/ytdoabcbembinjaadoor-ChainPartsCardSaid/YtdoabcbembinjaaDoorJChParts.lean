import Derived.Test.YtdoabcbembinjaaDoorJ17
/- Of a claim's texts, joined: ChParts. No statement but in the last. -/
namespace Go.Proofs.YtdoabcbembinjaaDoor
open Go.RowKit
set_option linter.unusedVariables false

set_option maxRecDepth 100000 in
set_option maxHeartbeats 8000000 in
theorem walkChParts (sb : ByteArray) (A : Option Addr) (n c : Nat) (l : List Int) (W : World) (ht : Tab W) (h : Ints6 W A n l) (hc : n ≤ c) (hcm : c ≤ maxLen) (hsz : sb.size ≤ 9223372036854775807) :
    Calls Tryd.prog 6 #[.string sb, .slice A n c] W fun e W' => e = .returned (.bool true) ∧ Below W.heap.size W W' := by
  have hmx : Tryd.prog.follows .mixedOrders = true := by kernel_rfl
  have hcI : (n : Int) ≤ 9223372036854775807 := by unfold maxLen at hcm; omega
  have HAW := Lib.hid (awake09_any W ht)
  by_cases hs : 600 < sb.size
  · have hsI : (600 : Int) < (sb.size : Int) := by omega
    clear hc hcm h
    go_enter Tryd.func6, Tryd.ntmps6
    go_wp2_with (go_at_call 8; (with_reducible refine HAW.out.mono ?_); rintro e w1 ⟨rfl, b1⟩; have B1 := Lib.hid b1; clear b1)
    go_ret
    exact ⟨rfl, B1.out⟩
  · by_cases hn : 20 < n
    · have hsI : ¬ (600 : Int) < (sb.size : Int) := by omega
      have hnI : (20 : Int) < (n : Int) := by omega
      clear hc hcm h
      go_enter Tryd.func6, Tryd.ntmps6
      go_wp2_with (go_at_call 8; (with_reducible refine HAW.out.mono ?_); rintro e w1 ⟨rfl, b1⟩; have B1 := Lib.hid b1; clear b1)
      go_ret
      exact ⟨rfl, B1.out⟩
    · have hsI : ¬ (600 : Int) < (sb.size : Int) := by omega
      have hnI : ¬ (20 : Int) < (n : Int) := by omega
      obtain ⟨s, hse⟩ : ∃ s : List UInt8, (⟨s.toArray⟩ : ByteArray) = sb := ⟨sb.data.toList, by simp⟩
      have hsl : s.length = sb.size := by rw [← size_list, hse]
      have HPU : Hid (∀ w1, Below W.heap.size W w1 → Calls Tryd.prog 9 #[.string sb, .slice A n c] w1 (PutEnd s l w1)) := Lib.hid (fun w1 b1 => by
        rw [← hse]
        exact hPut_any s A n c l w1 (ht.below b1) (by omega) (h.below9 b1) (by omega) hc hcm)
      unfold PutEnd at HPU
      by_cases hg : goodP s l
      · have hp : putN s l = (pagesN s l, 0) := by unfold putN; rw [if_pos hg]
        rw [hp] at HPU
        have hln : n = l.length := h.len
        have hnd : n = needN s.length := hln.trans hg.2.1
        obtain ⟨hne, hz1, hz2⟩ := need_pos hg.1
        rw [Int.toNat_natCast, ← hnd] at hne
        have hn1 : 1 ≤ n := by omega
        have hn4 : n ≤ 4 := by omega
        have HND := Lib.hid (hNeed_any (s.length : Int))
        rw [← hnd, hsl] at HND
        have HG := Lib.hid hg
        have HA := Lib.hid h
        have HNE := Lib.hid hne
        have HLN := Lib.hid hln
        have HSE := Lib.hid hse
        have HSL := Lib.hid hsl
        have HU : Hid (∀ k w1, Calls Tryd.prog 21 #[.string ⟨(pageN s l k).toArray⟩] w1 (RUnpEnd (3, [cellN s l k], 0) w1)) := Lib.hid (fun k w1 => by
          have := r7Unpack_any ⟨(pageN s l k).toArray⟩ w1 (by rw [size_list, pageN_len]; decide)
          have e : unpN (pageN s l k) = (3, [cellN s l k], 0) := unpN_page (cellN_fits s l k)
          rw [← e]
          exact this)
        have hse2 : s.take (119 * n) = s := List.take_of_length_le (by omega)
        have HS2 := Lib.hid hse2
        clear hse hsl h ht hs hn hp hg hnd hln hne hz1 hz2 hse2
        go_enter Tryd.func6, Tryd.ntmps6
        go_wp2_with (first
          | (go_at_call 8; (with_reducible refine HAW.out.mono ?_); rintro e w1 ⟨rfl, b1⟩; have B1 := Lib.hid b1; clear b1)
          | (go_at_call 9; (with_reducible refine (HPU.out _ B1.out).mono ?_); rintro e w2 ⟨A2, n2, c2, q, rfl, hC, hq, _, b2, _⟩; have C2 := Lib.hid hC; have HQ := Lib.hid (lq_pages hq); have B2 := Lib.hid (below_step B1.out b2); have hn2 : n2 = n := (hC.len.trans ((lq_pages hq).1.trans HLN.out.symm)); clear hC hq b2; subst hn2))
        go_loopw [8, 9] (fun v i wr => ∃ k : Nat, k ≤ n2 ∧ i = .int .i64 (k : Int) ∧ v = .string ⟨(s.take (119 * k)).toArray⟩ ∧ Below w2.heap.size w2 wr) (fun _ i _ => n2 - (intOf i).toNat)
        case atStart => exact ⟨0, Nat.zero_le _, rfl, (by simp), Below.refl _ _⟩
        case round =>
          obtain ⟨k, hk, rfl, rfl, hb⟩ := hrel
          have HB := Lib.hid hb
          clear hb
          by_cases hlt : k < n2
          · have hCk := C2.out.below HB.out
            have hkq : k < q.length := by rw [HQ.out.1, ← HLN.out]; exact hlt
            obtain ⟨gh, oh, rfl, ck⟩ := hCk.at hkq
            have hy := hCk.hdr hkq
            have hyl := HQ.out.2 k hkq
            have hcv := run_string_of (P := Tryd.prog) wr 31 9 5 Tryd.underlying31 Tryd.underlying5 Tryd.underlying9 (cap := (q[k]).c) hy.len hy.reads
            rw [hyl] at hcv
            have HUk := Lib.hid (HU.out k)
            generalize q[k] = y at ck hcv
            obtain ⟨c0, hc0⟩ : ∃ c0, cellN s l k = c0 := ⟨_, rfl⟩
            obtain ⟨pz, hpz⟩ : ∃ pz, partZ s.length k = pz := ⟨_, rfl⟩
            have hcl : c0.length = 2 + pz := by rw [← hc0, cellN_len, hpz]
            have hpz1 : 1 ≤ pz ∧ pz ≤ 119 ∧ (k + 1 < n2 → pz = 119) := by
              rw [← hpz]
              have := HNE.out
              unfold partZ
              omega
            obtain ⟨hp1, hp2, hp3⟩ := hpz1
            obtain ⟨nx, hnx, hnx9⟩ := next_small HG.out.2.2 (k + 1)
            have hc0e : c0 = numB nx 2 ++ partL s k := by rw [← hc0]; unfold cellN; rw [hnx, Int.toNat_natCast]
            have hd2 : c0.drop 2 = partL s k := by rw [hc0e, List.drop_left' (numB_len _ _)]
            have hi0 : c0[0]? = some (UInt8.ofNat (nx / 256)) := by rw [hc0e, List.getElem?_append_left (by rw [numB_len]; decide), numB_at _ _ _ (by decide)]
            have hi1 : c0[1]? = some (UInt8.ofNat nx) := by rw [hc0e, List.getElem?_append_left (by rw [numB_len]; decide), numB_at _ _ _ (by decide)]; simp
            have htk : s.take (119 * k) ++ partL s k = s.take (119 * (k + 1)) := by
              unfold partL
              rw [show 119 * (k + 1) = 119 * k + 119 by omega, List.take_add]
            rw [hc0] at HUk
            generalize (⟨(pageN s l k).toArray⟩ : ByteArray) = pb at hcv HUk
            obtain ⟨cb, hcb⟩ : ∃ cb : ByteArray, (⟨c0.toArray⟩ : ByteArray) = cb := ⟨_, rfl⟩
            have hcs : cb.size = 2 + pz := by rw [← hcb, size_list, hcl]
            obtain ⟨hx0, hb0'⟩ := idx_str cb 0 _ (by rw [← hcb]; exact hi0)
            obtain ⟨hx1, hb1'⟩ := idx_str cb 1 _ (by rw [← hcb]; exact hi1)
            obtain ⟨b0, hb0⟩ : ∃ b0, (cb[0]'hx0).toNat = b0 := ⟨_, rfl⟩
            obtain ⟨b1, hb1⟩ : ∃ b1, (cb[1]'hx1).toNat = b1 := ⟨_, rfl⟩
            have e0 : b0 = nx / 256 := by rw [← hb0, hb0', UInt8.toNat_ofNat']; omega
            have e1 : b1 = nx % 256 := by rw [← hb1, hb1', UInt8.toNat_ofNat']
            obtain ⟨m0, hm0⟩ : ∃ m0, 256 * b0 = m0 := ⟨_, rfl⟩
            have hwc0 : IntKind.i64.wrap (b0 : Int) = (b0 : Int) := IntWalk.i64_in _ (by omega)
            have hwc1 : IntKind.i64.wrap (b1 : Int) = (b1 : Int) := IntWalk.i64_in _ (by omega)
            have hwm : IntKind.i64.wrap (256 * (b0 : Int)) = (m0 : Int) := by rw [IntWalk.i64_in _ (by omega)]; omega
            have hwa : IntKind.i64.wrap ((m0 : Int) + (b1 : Int)) = (nx : Int) := by rw [IntWalk.i64_in _ (by omega)]; omega
            have hkI : (k : Int) < (n2 : Int) := by omega
            have hk0 : (0 : Int) ≤ (k : Int) := by omega
            have hex : cb.extract 2 (2 + pz) = ⟨(partL s k).toArray⟩ := by
              rw [← hcb, ext_cut]
              have e : ((⟨c0.toArray⟩ : ByteArray).data.toList) = c0 := rfl
              rw [e, hd2, List.take_of_length_le (by rw [← hd2, List.length_drop]; omega)]
            have HSA : Hid ((⟨(s.take (119 * k)).toArray⟩ : ByteArray) ++ ⟨(partL s k).toArray⟩ = ⟨(s.take (119 * (k + 1))).toArray⟩) := Lib.hid (by rw [str_app, ← htk])
            have hzk : (⟨(s.take (119 * k)).toArray⟩ : ByteArray).size ≤ 400 := by rw [size_list, List.length_take]; have := HNE.out; omega
            have hzp : (⟨(partL s k).toArray⟩ : ByteArray).size = pz := by rw [size_list, partL_len, hpz]
            generalize (⟨(s.take (119 * k)).toArray⟩ : ByteArray) = ab at HSA hzk ⊢
            generalize (⟨(partL s k).toArray⟩ : ByteArray) = pk at HSA hex hzp
            have HCB := Lib.hid hcb
            have HYC : Hid (k + 1 < n2 → ∃ g o, A = some ⟨g, o, none⟩ ∧ ∀ w1, Below W.heap.size W w1 → w1.cell? ⟨g, o + (k + 1), none⟩ = some (.int .i64 (nx : Int))) := Lib.hid (fun hk1 => by
              obtain ⟨g, o, e, hcc⟩ := HA.out.at_ (getD_some (by rw [← HLN.out]; exact hk1))
              rw [hnx] at hcc
              exact ⟨g, o, e, fun w1 b => cell_below hcc b⟩)
            have HN0 : Hid (¬ k + 1 < n2 → nx = 0) := Lib.hid (fun hk1 => by
              rw [List.getD_eq_getElem?_getD, List.getElem?_eq_none (by rw [← HLN.out]; omega)] at hnx
              have : ((nx : Nat) : Int) = 0 := hnx.symm
              omega)
            have HPZ3 := Lib.hid hp3
            clear hcb hc0e hd2 hi0 hi1 htk hc0 hb0' hb1' hpz hy hyl hCk hkq hm0 hcl hnx hp3 e0 e1
            by_cases hk1 : k + 1 < n2
            · have hk1I : (k : Int) + 1 < (n2 : Int) := by omega
              obtain ⟨ga, oa, rfl, hca⟩ := HYC.out hk1
              have hpz9 := HPZ3.out hk1
              have hcs9 : cb.size = 121 := by omega
              have HCA := Lib.hid hca
              clear hca HPZ3 HYC HN0 hcs
              subst hpz9
              go_wp2_with (go_at_call 21; go_loud ((with_reducible refine (HUk.out _).mono ?_); rintro e w3 ⟨Aq, nq, cq, rfl, hT, b3⟩; have hnq := hT.len; simp only [List.length_cons, List.length_nil, Nat.zero_add] at hnq; subst hnq; obtain ⟨gq, oq, rfl, cqk⟩ := hT.at (k := 0) (by simp); simp only [Nat.add_zero, List.getElem_cons_zero, HCB.out] at cqk; have B3 := Lib.hid (below_step HB.out b3); have hca3 := HCA.out w3 (below_step B2.out B3.out); clear b3 hT))
              have hSd : (fun w' : World => w'.cell? ⟨gq, oq, none⟩ = some (.string cb)) w3.drew := cqk
              rename_i K hK
              refine wp_held (fun w' : World => w'.cell? ⟨gq, oq, none⟩ = some (.string cb)) K hmx ?_ (fun _ _ h => h)
              refine wpAnyH_take (i := 0) (v := .slice (some ⟨gq, oq, none⟩) 1 cq) rfl (by kernel_rfl) (by kernel_rfl) (by kernel_rfl) (fun _ _ _ h => h) (Or.inl ⟨by rfl, ?_⟩) hSd ?_
              · rintro w6 k1
                go_simp
              simp only [Act.put, List.setIfInBounds_toArray, List.set_cons_zero, List.set_cons_succ, List.getElem_toArray, List.getElem_cons_zero]
              refine wpAnyH_take (i := 1) (v := .pointer (some ⟨gq, oq, none⟩)) rfl (by kernel_rfl) (by kernel_rfl) (by kernel_rfl) (fun _ _ _ h => h) (Or.inl ⟨by rfl, ?_⟩) hSd ?_
              · rintro w6 k1
                go_simp
              simp only [Act.put, List.setIfInBounds_toArray, List.set_cons_zero, List.set_cons_succ, List.getElem_toArray, List.getElem_cons_zero, List.getElem_cons_succ]
              refine wpAnyH_take (i := 2) (v := .string cb) rfl (by kernel_rfl) (by kernel_rfl) (by kernel_rfl) (fun _ _ _ h => h) (Or.inl ⟨by rfl, ?_⟩) hSd ?_
              · rintro w6 k1
                go_simp
              simp only [Act.put, List.setIfInBounds_toArray, List.set_cons_zero, List.set_cons_succ, List.getElem_toArray, List.getElem_cons_zero, List.getElem_cons_succ]
              refine wpAnyH_take (i := 3) (v := .int .u8 (b0 : Int)) rfl (by kernel_rfl) (by kernel_rfl) (by kernel_rfl) (fun _ _ _ h => h) (Or.inl ⟨by rfl, ?_⟩) hSd ?_
              · rintro w6 k1
                go_simp
                (try omega)
              simp only [Act.put, List.setIfInBounds_toArray, List.set_cons_zero, List.set_cons_succ, List.getElem_toArray, List.getElem_cons_zero, List.getElem_cons_succ]
              refine wpAnyH_take (i := 4) (v := .int .i64 (b0 : Int)) rfl (by kernel_rfl) (by kernel_rfl) (by kernel_rfl) (fun _ _ _ h => h) (Or.inl ⟨by rfl, ?_⟩) hSd ?_
              · rintro w6 k1
                go_simp
              simp only [Act.put, List.setIfInBounds_toArray, List.set_cons_zero, List.set_cons_succ, List.getElem_toArray, List.getElem_cons_zero, List.getElem_cons_succ]
              refine wpAnyH_take (i := 5) (v := .int .i64 (m0 : Int)) rfl (by kernel_rfl) (by kernel_rfl) (by kernel_rfl) (fun _ _ _ h => h) (Or.inl ⟨by rfl, ?_⟩) hSd ?_
              · rintro w6 k1
                go_simp
              simp only [Act.put, List.setIfInBounds_toArray, List.set_cons_zero, List.set_cons_succ, List.getElem_toArray, List.getElem_cons_zero, List.getElem_cons_succ]
              refine wpAnyH_take (i := 6) (v := .slice (some ⟨gq, oq, none⟩) 1 cq) rfl (by kernel_rfl) (by kernel_rfl) (by kernel_rfl) (fun _ _ _ h => h) (Or.inl ⟨by rfl, ?_⟩) hSd ?_
              · rintro w6 k1
                go_simp
              simp only [Act.put, List.setIfInBounds_toArray, List.set_cons_zero, List.set_cons_succ, List.getElem_toArray, List.getElem_cons_zero, List.getElem_cons_succ]
              refine wpAnyH_take (i := 7) (v := .pointer (some ⟨gq, oq, none⟩)) rfl (by kernel_rfl) (by kernel_rfl) (by kernel_rfl) (fun _ _ _ h => h) (Or.inl ⟨by rfl, ?_⟩) hSd ?_
              · rintro w6 k1
                go_simp
              simp only [Act.put, List.setIfInBounds_toArray, List.set_cons_zero, List.set_cons_succ, List.getElem_toArray, List.getElem_cons_zero, List.getElem_cons_succ]
              refine wpAnyH_take (i := 8) (v := .string cb) rfl (by kernel_rfl) (by kernel_rfl) (by kernel_rfl) (fun _ _ _ h => h) (Or.inl ⟨by rfl, ?_⟩) hSd ?_
              · rintro w6 k1
                go_simp
              simp only [Act.put, List.setIfInBounds_toArray, List.set_cons_zero, List.set_cons_succ, List.getElem_toArray, List.getElem_cons_zero, List.getElem_cons_succ]
              refine wpAnyH_take (i := 9) (v := .int .u8 (b1 : Int)) rfl (by kernel_rfl) (by kernel_rfl) (by kernel_rfl) (fun _ _ _ h => h) (Or.inl ⟨by rfl, ?_⟩) hSd ?_
              · rintro w6 k1
                go_simp
                (try omega)
              simp only [Act.put, List.setIfInBounds_toArray, List.set_cons_zero, List.set_cons_succ, List.getElem_toArray, List.getElem_cons_zero, List.getElem_cons_succ]
              refine wpAnyH_take (i := 10) (v := .int .i64 (b1 : Int)) rfl (by kernel_rfl) (by kernel_rfl) (by kernel_rfl) (fun _ _ _ h => h) (Or.inl ⟨by rfl, ?_⟩) hSd ?_
              · rintro w6 k1
                go_simp
              simp only [Act.put, List.setIfInBounds_toArray, List.set_cons_zero, List.set_cons_succ, List.getElem_toArray, List.getElem_cons_zero, List.getElem_cons_succ]
              refine wpAnyH_take (i := 11) (v := .int .i64 (nx : Int)) rfl (by kernel_rfl) (by kernel_rfl) (by kernel_rfl) (fun _ _ _ h => h) (Or.inl ⟨by rfl, ?_⟩) hSd ?_
              · rintro w6 k1
                go_simp
              simp only [Act.put, List.setIfInBounds_toArray, List.set_cons_zero, List.set_cons_succ, List.getElem_toArray, List.getElem_cons_zero, List.getElem_cons_succ]
              refine wpAnyH_take (i := 12) (v := .int .i64 (nx : Int)) rfl (by kernel_rfl) (by kernel_rfl) (by kernel_rfl) (fun _ _ _ h => h) (Or.inl ⟨by rfl, ?_⟩) hSd ?_
              · rintro w6 k1
                go_simp
              simp only [Act.put, List.setIfInBounds_toArray, List.set_cons_zero, List.set_cons_succ, List.getElem_toArray, List.getElem_cons_zero, List.getElem_cons_succ]
              refine wpAnyH_done (by kernel_rfl) ?_ _
              refine hK _ _ ?_
              have cqd : w3.drew.cell? ⟨gq, oq, none⟩ = some (.string cb) := cqk
              have hca4 : w3.drew.cell? ⟨ga, oa + (k + 1), none⟩ = some (.int .i64 (nx : Int)) := hca3
              go_wp2
              go_roundw
              case rel => exact ⟨k + 1, by omega, by go_num, by rw [HSA.out], B3.out.drew⟩
              case measure => simp [intOf]; omega
            · have hk1I : ¬ ((k : Int) + 1 < (n2 : Int)) := by omega
              have hk1E : ((k : Int) + 1 == (n2 : Int)) = true := by simp; omega
              have hn0 := HN0.out hk1
              have hn0I : (nx : Int) = 0 := by omega
              clear HPZ3 HYC HN0 hn0
              go_wp2_with (go_at_call 21; go_loud ((with_reducible refine (HUk.out _).mono ?_); rintro e w3 ⟨Aq, nq, cq, rfl, hT, b3⟩; have hnq := hT.len; simp only [List.length_cons, List.length_nil, Nat.zero_add] at hnq; subst hnq; obtain ⟨gq, oq, rfl, cqk⟩ := hT.at (k := 0) (by simp); simp only [Nat.add_zero, List.getElem_cons_zero, HCB.out] at cqk; have B3 := Lib.hid (below_step HB.out b3); skip; clear b3 hT))
              have hSd : (fun w' : World => w'.cell? ⟨gq, oq, none⟩ = some (.string cb)) w3.drew := cqk
              rename_i K hK hx_
              refine wp_held (fun w' : World => w'.cell? ⟨gq, oq, none⟩ = some (.string cb)) K hmx ?_ (fun _ _ h => h)
              refine wpAnyH_take (i := 0) (v := .slice (some ⟨gq, oq, none⟩) 1 cq) rfl (by kernel_rfl) (by kernel_rfl) (by kernel_rfl) (fun _ _ _ h => h) (Or.inl ⟨by rfl, ?_⟩) hSd ?_
              · rintro w6 k1
                go_simp
              simp only [Act.put, List.setIfInBounds_toArray, List.set_cons_zero, List.set_cons_succ, List.getElem_toArray, List.getElem_cons_zero]
              refine wpAnyH_take (i := 1) (v := .pointer (some ⟨gq, oq, none⟩)) rfl (by kernel_rfl) (by kernel_rfl) (by kernel_rfl) (fun _ _ _ h => h) (Or.inl ⟨by rfl, ?_⟩) hSd ?_
              · rintro w6 k1
                go_simp
              simp only [Act.put, List.setIfInBounds_toArray, List.set_cons_zero, List.set_cons_succ, List.getElem_toArray, List.getElem_cons_zero, List.getElem_cons_succ]
              refine wpAnyH_take (i := 2) (v := .string cb) rfl (by kernel_rfl) (by kernel_rfl) (by kernel_rfl) (fun _ _ _ h => h) (Or.inl ⟨by rfl, ?_⟩) hSd ?_
              · rintro w6 k1
                go_simp
              simp only [Act.put, List.setIfInBounds_toArray, List.set_cons_zero, List.set_cons_succ, List.getElem_toArray, List.getElem_cons_zero, List.getElem_cons_succ]
              refine wpAnyH_take (i := 3) (v := .int .u8 (b0 : Int)) rfl (by kernel_rfl) (by kernel_rfl) (by kernel_rfl) (fun _ _ _ h => h) (Or.inl ⟨by rfl, ?_⟩) hSd ?_
              · rintro w6 k1
                go_simp
                (try omega)
              simp only [Act.put, List.setIfInBounds_toArray, List.set_cons_zero, List.set_cons_succ, List.getElem_toArray, List.getElem_cons_zero, List.getElem_cons_succ]
              refine wpAnyH_take (i := 4) (v := .int .i64 (b0 : Int)) rfl (by kernel_rfl) (by kernel_rfl) (by kernel_rfl) (fun _ _ _ h => h) (Or.inl ⟨by rfl, ?_⟩) hSd ?_
              · rintro w6 k1
                go_simp
              simp only [Act.put, List.setIfInBounds_toArray, List.set_cons_zero, List.set_cons_succ, List.getElem_toArray, List.getElem_cons_zero, List.getElem_cons_succ]
              refine wpAnyH_take (i := 5) (v := .int .i64 (m0 : Int)) rfl (by kernel_rfl) (by kernel_rfl) (by kernel_rfl) (fun _ _ _ h => h) (Or.inl ⟨by rfl, ?_⟩) hSd ?_
              · rintro w6 k1
                go_simp
              simp only [Act.put, List.setIfInBounds_toArray, List.set_cons_zero, List.set_cons_succ, List.getElem_toArray, List.getElem_cons_zero, List.getElem_cons_succ]
              refine wpAnyH_take (i := 6) (v := .slice (some ⟨gq, oq, none⟩) 1 cq) rfl (by kernel_rfl) (by kernel_rfl) (by kernel_rfl) (fun _ _ _ h => h) (Or.inl ⟨by rfl, ?_⟩) hSd ?_
              · rintro w6 k1
                go_simp
              simp only [Act.put, List.setIfInBounds_toArray, List.set_cons_zero, List.set_cons_succ, List.getElem_toArray, List.getElem_cons_zero, List.getElem_cons_succ]
              refine wpAnyH_take (i := 7) (v := .pointer (some ⟨gq, oq, none⟩)) rfl (by kernel_rfl) (by kernel_rfl) (by kernel_rfl) (fun _ _ _ h => h) (Or.inl ⟨by rfl, ?_⟩) hSd ?_
              · rintro w6 k1
                go_simp
              simp only [Act.put, List.setIfInBounds_toArray, List.set_cons_zero, List.set_cons_succ, List.getElem_toArray, List.getElem_cons_zero, List.getElem_cons_succ]
              refine wpAnyH_take (i := 8) (v := .string cb) rfl (by kernel_rfl) (by kernel_rfl) (by kernel_rfl) (fun _ _ _ h => h) (Or.inl ⟨by rfl, ?_⟩) hSd ?_
              · rintro w6 k1
                go_simp
              simp only [Act.put, List.setIfInBounds_toArray, List.set_cons_zero, List.set_cons_succ, List.getElem_toArray, List.getElem_cons_zero, List.getElem_cons_succ]
              refine wpAnyH_take (i := 9) (v := .int .u8 (b1 : Int)) rfl (by kernel_rfl) (by kernel_rfl) (by kernel_rfl) (fun _ _ _ h => h) (Or.inl ⟨by rfl, ?_⟩) hSd ?_
              · rintro w6 k1
                go_simp
                (try omega)
              simp only [Act.put, List.setIfInBounds_toArray, List.set_cons_zero, List.set_cons_succ, List.getElem_toArray, List.getElem_cons_zero, List.getElem_cons_succ]
              refine wpAnyH_take (i := 10) (v := .int .i64 (b1 : Int)) rfl (by kernel_rfl) (by kernel_rfl) (by kernel_rfl) (fun _ _ _ h => h) (Or.inl ⟨by rfl, ?_⟩) hSd ?_
              · rintro w6 k1
                go_simp
              simp only [Act.put, List.setIfInBounds_toArray, List.set_cons_zero, List.set_cons_succ, List.getElem_toArray, List.getElem_cons_zero, List.getElem_cons_succ]
              refine wpAnyH_take (i := 11) (v := .int .i64 (nx : Int)) rfl (by kernel_rfl) (by kernel_rfl) (by kernel_rfl) (fun _ _ _ h => h) (Or.inl ⟨by rfl, ?_⟩) hSd ?_
              · rintro w6 k1
                go_simp
              simp only [Act.put, List.setIfInBounds_toArray, List.set_cons_zero, List.set_cons_succ, List.getElem_toArray, List.getElem_cons_zero, List.getElem_cons_succ]
              refine wpAnyH_take (i := 12) (v := .int .i64 (nx : Int)) rfl (by kernel_rfl) (by kernel_rfl) (by kernel_rfl) (fun _ _ _ h => h) (Or.inl ⟨by rfl, ?_⟩) hSd ?_
              · rintro w6 k1
                go_simp
              simp only [Act.put, List.setIfInBounds_toArray, List.set_cons_zero, List.set_cons_succ, List.getElem_toArray, List.getElem_cons_zero, List.getElem_cons_succ]
              refine wpAnyH_done (by kernel_rfl) ?_ _
              refine hK _ _ ?_
              have cqd : w3.drew.cell? ⟨gq, oq, none⟩ = some (.string cb) := cqk
              skip
              go_wp2
              go_roundw
              case rel => exact ⟨k + 1, by omega, by go_num, by rw [HSA.out], B3.out.drew⟩
              case measure => simp [intOf]; omega
          · obtain rfl : k = n2 := by omega
            rw [HS2.out, HSE.out]
            obtain ⟨w5, hw5⟩ : ∃ w5 : World, w5 = wr := ⟨_, rfl⟩
            subst hw5
            have B5 := Lib.hid (below_step B2.out HB.out)
            go_wp2_with (go_at_call 11; (with_reducible refine (HND.out _).mono ?_); rintro e w6 ⟨rfl, rfl⟩)
            go_ret
            exact ⟨rfl, B5.out⟩
      · have hp : putN s l = ([], 1) := by unfold putN; rw [if_neg hg]
        rw [hp] at HPU
        clear hse hsl h ht hs hn hp hg
        go_enter Tryd.func6, Tryd.ntmps6
        go_wp2_with (first
          | (go_at_call 8; (with_reducible refine HAW.out.mono ?_); rintro e w1 ⟨rfl, b1⟩; have B1 := Lib.hid b1; clear b1)
          | (go_at_call 9; (with_reducible refine (HPU.out _ B1.out).mono ?_); rintro e w2 ⟨A2, n2, c2, q, rfl, hC, hq, _, b2, _⟩; have hn2 : n2 = 0 := (by have h1 := congrArg List.length hq; rw [lq_len, ← hC.len] at h1; exact h1); subst hn2; have B2 := Lib.hid (below_step B1.out b2); clear hC hq b2))
        go_ret
        exact ⟨rfl, B2.out⟩

end Go.Proofs.YtdoabcbembinjaaDoor
