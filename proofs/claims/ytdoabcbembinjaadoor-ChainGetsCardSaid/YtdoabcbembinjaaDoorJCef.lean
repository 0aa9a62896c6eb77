import Derived.Test.YtdoabcbembinjaaDoorJ12
import Derived.Test.YtdoabcbembinjaaDoorJ08
/- Of a claim's texts, joined: Cef. No statement but in the last. -/
namespace Go.Proofs.YtdoabcbembinjaaDoor
open Go.RowKit
set_option linter.unusedVariables false

def RUnpRow (r : UInt8 × List (List UInt8) × Int) (w : World) (e : Ending) (w' : World) : Prop :=
  ∃ A n c, e = .returned (.tuple #[.int .u8 (r.1.toNat : Int), .slice A n c, .int .i64 r.2.2]) ∧ TxtA w' A n r.2.1 ∧ Below w.heap.size w w' ∧ Row w' 9 w.heap.size A (r.2.1.map cstV)
theorem RUnpRow.no {w w' : World} {er : Int} (h : Below w.heap.size w w') : RUnpRow (0, [], er) w (.returned (.tuple #[.int .u8 0, .slice none 0 0, .int .i64 er])) w' := ⟨none, 0, 0, rfl, ⟨rfl, Reads.empty⟩, h, Row.empty⟩
theorem r7Unpack_len (s : ByteArray) (w : World) (hs : s.size ≤ 1000000) (hl : s.size ≠ 128) :
    Calls Tryd.prog 21 #[.string s] w (RUnpRow (unpN s.data.toList) w) := by
  have hu : unpN s.data.toList = (0, [], 1) := by unfold unpN; rw [if_pos (show s.data.toList.length ≠ 128 from hl)]
  have hne : ((s.size : Int) != 128) = true := by simp; omega
  rw [hu]
  go_enter Tryd.func21, Tryd.ntmps21
  go_wp2
  go_ret3
  exact RUnpRow.no (Below.refl _ _)
theorem ext_cut (s : ByteArray) (a e : Nat) : s.extract a e = ⟨((s.data.toList.drop a).take (e - a)).toArray⟩ := by
  apply ByteArray.ext
  apply Array.ext'
  simp only [ByteArray.data_extract, Array.toList_extract, List.extract_eq_take_drop]
theorem isTag_four (b : List UInt8) (h : 4 ≤ b.length) : isTag b ↔ numB (ofN (b.drop 4)) 4 = b.take 4 := by
  constructor
  · intro ht
    have := congrArg (List.take 4) ht.2
    unfold tagB at this
    rwa [List.take_append_of_le_length (by rw [numB_len]; omega), List.take_of_length_le (by rw [numB_len]; omega)] at this
  · intro he
    refine ⟨h, ?_⟩
    unfold tagB
    rw [he, List.take_append_drop]

set_option maxRecDepth 100000 in
set_option maxHeartbeats 4000000 in
theorem r7Unpack_sum (s : ByteArray) (w : World) (hl : s.size = 128) (hg : ¬ isTag s.data.toList) :
    Calls Tryd.prog 21 #[.string s] w (RUnpRow (unpN s.data.toList) w) := by
  have hmx : Tryd.prog.follows .mixedOrders = true := by kernel_rfl
  have hln : s.data.toList.length = 128 := hl
  have hu : unpN s.data.toList = (0, [], 12) := by unfold unpN; rw [if_neg (by simpa using hln), if_pos hg]
  rw [hu]
  obtain ⟨T4, hT4⟩ : ∃ T, s.data.toList.take 4 = T := ⟨_, rfl⟩
  obtain ⟨T5, hT5⟩ : ∃ T, s.data.toList.drop 4 = T := ⟨_, rfl⟩
  have he0 : s.extract 0 4 = ⟨T4.toArray⟩ := by rw [ext_cut, ← hT4]; rfl
  have he4 : s.extract 4 128 = ⟨T5.toArray⟩ := by rw [ext_cut, ← hT5, List.take_of_length_le (by rw [List.length_drop]; omega)]
  have hT5l : T5.length ≤ 1000 := by rw [← hT5, List.length_drop]; omega
  rw [isTag_four _ (by omega), hT4, hT5] at hg
  have HOF := Lib.hid (fun W => r2Of_any ⟨T5.toArray⟩ W (by rw [size_list]; omega))
  have hfl := ofN_lt T5
  have HNM := Lib.hid (fun W => rNum_yes (ofN T5) 4 W (by omega) (by omega) (by omega))
  obtain ⟨f, hf⟩ : ∃ f, ofN T5 = f := ⟨_, rfl⟩
  simp only [hf] at HOF HNM hg hfl
  obtain ⟨NB, hNB⟩ : ∃ NB, numB f 4 = NB := ⟨_, rfl⟩
  simp only [hNB] at HNM hg
  have hwf : IntKind.u64.wrap (f : Int) = (f : Int) := IntWalk.u64_in _ (by omega)
  have hq : (NB == T4) = false := by simpa using hg
  clear hg hT4 hT5 hNB hf
  go_enter Tryd.func21, Tryd.ntmps21
  go_wp2
  rename_i K hK
  refine wp_held (fun w' : World => True) K hmx ?_ (fun _ _ h => h)
  refine wpAnyH_take (i := 0) (v := .string s) rfl (by kernel_rfl) (by kernel_rfl) (by kernel_rfl) (fun _ _ _ h => h) (Or.inl ⟨by rfl, ?_⟩) trivial ?_
  · rintro w6 s1
    go_simp
  simp only [Act.put, List.setIfInBounds_toArray, List.set_cons_zero, List.set_cons_succ, List.getElem_toArray, List.getElem_cons_zero]
  refine wpAnyH_take (i := 1) (v := .string ⟨T5.toArray⟩) rfl (by kernel_rfl) (by kernel_rfl) (by kernel_rfl) (fun _ _ _ h => h) (Or.inl ⟨by rfl, ?_⟩) trivial ?_
  · rintro w6 s1
    go_simp
  simp only [Act.put, List.setIfInBounds_toArray, List.set_cons_zero, List.set_cons_succ, List.getElem_toArray, List.getElem_cons_zero, List.getElem_cons_succ]
  refine wpAnyH_take (i := 5) (v := .string s) rfl (by kernel_rfl) (by kernel_rfl) (by kernel_rfl) (fun _ _ _ h => h) (Or.inl ⟨by rfl, ?_⟩) trivial ?_
  · rintro w6 s1
    go_simp
  simp only [Act.put, List.setIfInBounds_toArray, List.set_cons_zero, List.set_cons_succ, List.getElem_toArray, List.getElem_cons_zero, List.getElem_cons_succ]
  refine wpAnyH_take (i := 6) (v := .string ⟨T4.toArray⟩) rfl (by kernel_rfl) (by kernel_rfl) (by kernel_rfl) (fun _ _ _ h => h) (Or.inl ⟨by rfl, ?_⟩) trivial ?_
  · rintro w6 s1
    go_simp
  simp only [Act.put, List.setIfInBounds_toArray, List.set_cons_zero, List.set_cons_succ, List.getElem_toArray, List.getElem_cons_zero, List.getElem_cons_succ]
  refine wpAnyH_ready (rs := [2]) (by kernel_rfl) (by simp) ?_
  refine AllReadyH.cons rfl (fun K5 hK5 => ?_) AllReadyH.nil
  go_simp
  go_at_call 44
  refine (HOF.out _).mono ?_
  rintro e w1 ⟨rfl, rfl⟩
  refine hK5.out _ _ trivial (fun _ => ?_)
  clear hK5 K5
  refine wpAnyH_take (i := 3) (v := .int .u64 (f : Int)) rfl (by kernel_rfl) (by kernel_rfl) (by kernel_rfl) (fun _ _ _ h => h) (Or.inl ⟨by rfl, ?_⟩) trivial ?_
  · rintro w6 s1
    go_simp
  simp only [Act.put, List.setIfInBounds_toArray, List.set_cons_zero, List.set_cons_succ, List.getElem_toArray, List.getElem_cons_zero, List.getElem_cons_succ]
  refine wpAnyH_ready (rs := [4]) (by kernel_rfl) (by simp) ?_
  refine AllReadyH.cons rfl (fun K5 hK5 => ?_) AllReadyH.nil
  go_simp
  go_at_call 30
  refine (HNM.out _).mono ?_
  rintro e w2 ⟨rfl, k2⟩
  refine hK5.out _ _ trivial (fun _ => ?_)
  clear hK5 K5
  refine wpAnyH_take (i := 7) (v := .bool true) rfl (by kernel_rfl) (by kernel_rfl) (by kernel_rfl) (fun _ _ _ h => h) (Or.inl ⟨by rfl, ?_⟩) trivial ?_
  · rintro w6 s1
    go_simp
  simp only [Act.put, List.setIfInBounds_toArray, List.set_cons_zero, List.set_cons_succ, List.getElem_toArray, List.getElem_cons_zero, List.getElem_cons_succ]
  refine wpAnyH_done (by kernel_rfl) ?_ _
  refine hK _ _ ?_
  go_wp2
  go_ret3
  exact RUnpRow.no (by have := k2; exact below_step (Below.refl _ w).drew k2)

theorem idx_str (s : ByteArray) (i : Nat) (x : UInt8) (h : s.data.toList[i]? = some x) : ∃ hi : i < s.size, (s[i]'hi).toNat = x.toNat := by
  obtain ⟨h1, h2⟩ := List.getElem?_eq_some_iff.1 h
  exact ⟨h1, congrArg UInt8.toNat h2⟩
def RUnpSt (w : World) (b : List UInt8) (k : Nat) (v e : Value) (wr : World) : Prop :=
  ∃ (end_ : Nat) (done : List (List UInt8)), e = .int .i64 end_ ∧ end_ ≤ 128 ∧ done.length = k ∧ done ++ cCut b ((cSlotsOf b).drop k) end_ = cCells b ∧ wr.ownsRow w.heap.size 9 1 v k (done.map cstV) ∧ Below w.heap.size w wr
theorem slots_at (b : List UInt8) (hb : b.length = 128) (k : Nat) (hk : k < cCount b) (h6 : 6 + k < 128) : ∃ x, b[6 + k]? = some x ∧ (cSlotsOf b)[k]? = some x := by
  refine ⟨_, List.getElem?_eq_getElem (by omega), ?_⟩
  unfold cSlotsOf
  rw [List.getElem?_take, if_pos hk, List.getElem?_drop, List.getElem?_eq_getElem]
theorem few_slots (b : List UInt8) (hb : b.length = 128) : (cCells b).length ≤ 122 := by
  unfold cCells
  refine Nat.le_trans (cCut_len _ _ _) ?_
  unfold cSlotsOf
  rw [List.length_take, List.length_drop, hb]
  omega
theorem cut_short (b : List UInt8) (hb : b.length = 128) : ∀ c ∈ cCells b, c.length ≤ 128 := by
  have hall : ∀ (ss : List UInt8) (e : Nat), ∀ y ∈ cCut b ss e, y.length ≤ 128 := by
    intro ss
    induction ss with
    | nil => intro e y hy; simp [cCut] at hy
    | cons s ss ih =>
      intro e y hy
      simp only [cCut] at hy
      split at hy
      · cases hy
      · rcases List.mem_cons.1 hy with rfl | hy
        · rw [List.length_take, List.length_drop]
          omega
        · exact ih _ _ hy
  exact fun c hc => hall _ _ c hc

set_option maxRecDepth 100000 in
set_option maxHeartbeats 8000000 in
theorem r7Unpack_page (s : ByteArray) (w : World) (hl : s.size = 128) (hg : isTag s.data.toList) :
    Calls Tryd.prog 21 #[.string s] w (RUnpRow (unpN s.data.toList) w) := by
  have hmx : Tryd.prog.follows .mixedOrders = true := by kernel_rfl
  obtain ⟨j0, hj, jz0, jz1, jz2⟩ := info_parts stinfo
  have hln : s.data.toList.length = 128 := hl
  have HG := Lib.hid hg
  obtain ⟨T4, hT4⟩ : ∃ T, s.data.toList.take 4 = T := ⟨_, rfl⟩
  obtain ⟨T5, hT5⟩ : ∃ T, s.data.toList.drop 4 = T := ⟨_, rfl⟩
  have he0 : s.extract 0 4 = ⟨T4.toArray⟩ := by rw [ext_cut, ← hT4]; rfl
  have he4 : s.extract 4 128 = ⟨T5.toArray⟩ := by rw [ext_cut, ← hT5, List.take_of_length_le (by rw [List.length_drop]; omega)]
  have hT5l : T5.length ≤ 1000 := by rw [← hT5, List.length_drop]; omega
  rw [isTag_four _ (by omega), hT4, hT5] at hg
  have HOF := Lib.hid (fun W => r2Of_any ⟨T5.toArray⟩ W (by rw [size_list]; omega))
  have hfl := ofN_lt T5
  have HNM := Lib.hid (fun W => rNum_yes (ofN T5) 4 W (by omega) (by omega) (by omega))
  obtain ⟨f, hf⟩ : ∃ f, ofN T5 = f := ⟨_, rfl⟩
  simp only [hf] at HOF HNM hg hfl
  obtain ⟨NB, hNB⟩ : ∃ NB, numB f 4 = NB := ⟨_, rfl⟩
  simp only [hNB] at HNM hg
  have hwf : IntKind.u64.wrap (f : Int) = (f : Int) := IntWalk.u64_in _ (by omega)
  have hq : (NB == T4) = true := by simpa using hg
  clear hg hT4 hT5 hNB hf
  obtain ⟨x, hx⟩ : ∃ x, s.data.toList[4]? = some x := ⟨_, List.getElem?_eq_getElem (by omega)⟩
  obtain ⟨y, hy⟩ : ∃ y, s.data.toList[5]? = some y := ⟨_, List.getElem?_eq_getElem (by omega)⟩
  have HX : Hid (cKind s.data.toList = x) := Lib.hid (by unfold cKind; rw [hx]; rfl)
  have HY : Hid (cCount s.data.toList = y.toNat) := Lib.hid (by unfold cCount; rw [hy]; rfl)
  obtain ⟨hi4, hx4⟩ := idx_str s 4 x hx
  obtain ⟨hi5, hy5⟩ := idx_str s 5 y hy
  have HL := Lib.hid hln
  have HIX := Lib.hid (fun i x h => idx_str s i x h)
  have HEC := Lib.hid (fun a e => ext_cut s a e)
  obtain ⟨b, hb⟩ : ∃ b, s.data.toList = b := ⟨_, rfl⟩
  rw [hb] at HX HY HL HG HIX HEC ⊢
  have HSB : Hid (s.toList = b) := Lib.hid (by rw [ByteArray.toList_eq]; exact hb)
  have HSL := Lib.hid (fun k hk h6 => slots_at b HL.out k hk h6)
  have hyl := y.toNat_lt
  have hxl := x.toNat_lt
  clear hln hx hy hb
  obtain ⟨n, hn⟩ : ∃ n, y.toNat = n := ⟨_, rfl⟩
  rw [hn] at HY hy5 hyl
  clear hn
  go_enter Tryd.func21, Tryd.ntmps21
  go_wp2
  rename_i K hK
  refine wp_held (fun w' : World => True) K hmx ?_ (fun _ _ h => h)
  refine wpAnyH_take (i := 0) (v := .string s) rfl (by kernel_rfl) (by kernel_rfl) (by kernel_rfl) (fun _ _ _ h => h) (Or.inl ⟨by rfl, ?_⟩) trivial ?_
  · rintro w6 s1
    go_simp
  simp only [Act.put, List.setIfInBounds_toArray, List.set_cons_zero, List.set_cons_succ, List.getElem_toArray, List.getElem_cons_zero]
  refine wpAnyH_take (i := 1) (v := .string ⟨T5.toArray⟩) rfl (by kernel_rfl) (by kernel_rfl) (by kernel_rfl) (fun _ _ _ h => h) (Or.inl ⟨by rfl, ?_⟩) trivial ?_
  · rintro w6 s1
    go_simp
  simp only [Act.put, List.setIfInBounds_toArray, List.set_cons_zero, List.set_cons_succ, List.getElem_toArray, List.getElem_cons_zero, List.getElem_cons_succ]
  refine wpAnyH_take (i := 5) (v := .string s) rfl (by kernel_rfl) (by kernel_rfl) (by kernel_rfl) (fun _ _ _ h => h) (Or.inl ⟨by rfl, ?_⟩) trivial ?_
  · rintro w6 s1
    go_simp
  simp only [Act.put, List.setIfInBounds_toArray, List.set_cons_zero, List.set_cons_succ, List.getElem_toArray, List.getElem_cons_zero, List.getElem_cons_succ]
  refine wpAnyH_take (i := 6) (v := .string ⟨T4.toArray⟩) rfl (by kernel_rfl) (by kernel_rfl) (by kernel_rfl) (fun _ _ _ h => h) (Or.inl ⟨by rfl, ?_⟩) trivial ?_
  · rintro w6 s1
    go_simp
  simp only [Act.put, List.setIfInBounds_toArray, List.set_cons_zero, List.set_cons_succ, List.getElem_toArray, List.getElem_cons_zero, List.getElem_cons_succ]
  refine wpAnyH_ready (rs := [2]) (by kernel_rfl) (by simp) ?_
  refine AllReadyH.cons rfl (fun K5 hK5 => ?_) AllReadyH.nil
  go_simp
  go_at_call 44
  refine (HOF.out _).mono ?_
  rintro e w1 ⟨rfl, rfl⟩
  refine hK5.out _ _ trivial (fun _ => ?_)
  clear hK5 K5
  refine wpAnyH_take (i := 3) (v := .int .u64 (f : Int)) rfl (by kernel_rfl) (by kernel_rfl) (by kernel_rfl) (fun _ _ _ h => h) (Or.inl ⟨by rfl, ?_⟩) trivial ?_
  · rintro w6 s1
    go_simp
  simp only [Act.put, List.setIfInBounds_toArray, List.set_cons_zero, List.set_cons_succ, List.getElem_toArray, List.getElem_cons_zero, List.getElem_cons_succ]
  refine wpAnyH_ready (rs := [4]) (by kernel_rfl) (by simp) ?_
  refine AllReadyH.cons rfl (fun K5 hK5 => ?_) AllReadyH.nil
  go_simp
  go_at_call 30
  refine (HNM.out _).mono ?_
  rintro e w2 ⟨rfl, k2⟩
  refine hK5.out _ _ trivial (fun _ => ?_)
  clear hK5 K5
  refine wpAnyH_take (i := 7) (v := .bool false) rfl (by kernel_rfl) (by kernel_rfl) (by kernel_rfl) (fun _ _ _ h => h) (Or.inl ⟨by rfl, ?_⟩) trivial ?_
  · rintro w6 s1
    go_simp
  simp only [Act.put, List.setIfInBounds_toArray, List.set_cons_zero, List.set_cons_succ, List.getElem_toArray, List.getElem_cons_zero, List.getElem_cons_succ]
  refine wpAnyH_done (by kernel_rfl) ?_ _
  refine hK _ _ ?_
  go_wp2
  have k2 := Lib.hid (below_step (Below.refl _ w).drew k2)
  go_loopw [6, 7, 8] (fun e v i wr => ∃ k : Nat, k ≤ n ∧ i = .int .i64 k ∧ RUnpSt w b k v e wr) (fun _ _ i _ => n - (intOf i).toNat)
  case atStart => exact ⟨0, Nat.zero_le _, rfl, 128, [], rfl, Nat.le_refl _, rfl, rfl, st_own_nil _ _, k2.out⟩
  case round =>
    obtain ⟨k, hk, rfl, hST⟩ := hrel
    have ST := Lib.hid hST
    clear hST
    by_cases hlt : k < n
    · obtain ⟨end_, done, rfl, he, hqk, hcut, hO, hB⟩ := ST.out
      have HO := Lib.hid hO
      have HB := Lib.hid hB
      have HQ := Lib.hid hqk
      have HCT := Lib.hid hcut
      clear hO hB hqk hcut
      by_cases h6 : 6 + k < 128
      · obtain ⟨sl, hs1, hs2⟩ := HSL.out k (by rw [HY.out]; exact hlt) h6
        obtain ⟨hik, hkv⟩ := HIX.out (6 + k) sl hs1
        have hsl := sl.toNat_lt
        by_cases hse : sl.toNat ≤ end_
        · have CC := Lib.hid (cCut_cons b (cSlotsOf b) k end_ sl hs2 hse)
          clear hs1 hs2
          generalize sl.toNat = t at *
          have hext := HEC.out t end_
          obtain ⟨C, hC⟩ : ∃ C, (b.drop t).take (end_ - t) = C := ⟨_, rfl⟩
          rw [hC] at CC hext
          clear hC
          have b1 : ¬ ((end_ : Int) < (t : Int)) := by omega
          obtain ⟨sz, hsz⟩ : ∃ z : ByteArray, (⟨C.toArray⟩ : ByteArray) = z := ⟨_, rfl⟩
          have HCS : Hid (cstV C = .string sz) := Lib.hid (by rw [← hsz]; rfl)
          rw [hsz] at hext
          clear hsz
          go_wp2_with (at_builtin; refine wpList_append_one rfl _ _ 28 9 rfl w.heap.size 9 j0 _ 16 Tryd.underlying28 hj jz0 jz1 jz2 rfl _ k _ rfl HO.out (.string sz) rfl rfl ?_ ?_ ?_ ?_; (omega); (unfold maxLen; omega); (exact HB.out.size); intro v4 w4 h7 h8; have O4 := Lib.hid h7; have B4 := Lib.hid (HB.out.trans h8); clear h7 h8)
          go_roundw
          case rel =>
            refine ⟨k + 1, by omega, by go_num, t, done ++ [C], rfl, by omega, by simp [HQ.out], ?_, ?_, B4.out⟩
            · have h1 := HCT.out
              rw [CC.out] at h1
              rw [List.append_assoc]
              exact h1
            · rw [List.map_append, List.map_cons, List.map_nil, HCS.out]
              exact O4.out
          case measure => simp [intOf]; omega
        · have HU : Hid (unpN b = (0, [], 11)) := Lib.hid (unpN_no HL.out HG.out (fun h => by
            have h1 := cForm_count h
            have h2 := HCT.out
            rw [cCut_stop b (cSlotsOf b) k end_ sl hs2 hse, List.append_nil] at h2
            rw [← h2, HQ.out, HY.out] at h1
            omega))
          rw [HU.out]
          clear hs1 hs2
          generalize sl.toNat = t at *
          have b1 : (end_ : Int) < (t : Int) := by omega
          obtain ⟨w3, hw3⟩ : ∃ w3 : World, w3 = wr := ⟨_, rfl⟩
          subst hw3
          go_wp2
          go_ret3
          exact RUnpRow.no HB.out
      · have HU : Hid (unpN b = (0, [], 11)) := Lib.hid (unpN_no HL.out HG.out (fun h => by
          have h1 := cForm_count h
          have h2 := few_slots b HL.out
          rw [HY.out] at h1
          omega))
        rw [HU.out]
        have b6 : (128 : Int) ≤ 6 + (k : Int) := by omega
        obtain ⟨w3, hw3⟩ : ∃ w3 : World, w3 = wr := ⟨_, rfl⟩
        subst hw3
        go_wp2
        go_ret3
        exact RUnpRow.no HB.out
    · obtain ⟨end_, done, rfl, he, hqk, hcut, hO, hB⟩ := ST.out
      obtain rfl : k = n := by omega
      have hnil : (cSlotsOf b).drop k = [] := List.drop_eq_nil_of_le (by unfold cSlotsOf; rw [List.length_take, HY.out]; omega)
      rw [hnil] at hcut
      have hdn : done = cCells b := by rw [← hcut]; simp [cCut]
      subst hdn
      obtain ⟨A2, c2, rfl, _, hT⟩ := TxtA.of_own hO
      have HRW := Lib.hid (Row.of_own hO)
      have HB := Lib.hid hB
      have HT := Lib.hid hT
      clear hO hB hT hnil hcut hqk
      obtain ⟨w3, hw3⟩ : ∃ w3 : World, w3 = wr := ⟨_, rfl⟩
      subst hw3
      by_cases hy : cFits x (cCells b)
      · have HP := Lib.hid (r7Pack_yes x A2 k c2 (cCells b) w3 HT.out hy)
        have HPL := Lib.hid (cPage_len x (cCells b) hy.2)
        have hpl : (cPage x (cCells b)).length ≤ 1000 := by rw [HPL.out]; omega
        by_cases hee : cPage x (cCells b) = b
        · have HU : Hid (unpN b = (x, cCells b, 0)) := Lib.hid (by rw [unpN_yes HL.out HG.out ⟨by rw [HX.out]; exact hy, by rw [HX.out]; exact hee⟩, HX.out])
          have hqq : (cPage x (cCells b) == s.toList) = true := by rw [HSB.out, hee]; simp
          clear hy hee
          generalize cPage x (cCells b) = PG at *
          go_wp2_with (go_at_call 29; refine HP.out.mono ?_; rintro e w4 ⟨rfl, b4⟩; have B4 := Lib.hid b4; clear b4)
          go_ret3
          rw [HU.out]
          exact ⟨A2, k, c2, rfl, HT.out.below B4.out, below_step HB.out B4.out, HRW.out.below B4.out⟩
        · have HU : Hid (unpN b = (0, [], 11)) := Lib.hid (unpN_no HL.out HG.out (fun h => hee (by have := h.2; rwa [HX.out] at this)))
          have hqq : (cPage x (cCells b) == s.toList) = false := by rw [HSB.out]; simpa using hee
          clear hy hee
          generalize cPage x (cCells b) = PG at *
          go_wp2_with (go_at_call 29; refine HP.out.mono ?_; rintro e w4 ⟨rfl, b4⟩; have B4 := Lib.hid b4; clear b4)
          go_ret3
          rw [HU.out]
          exact RUnpRow.no (below_step HB.out B4.out)
      · have HP := Lib.hid (r7Pack_no x A2 k c2 (cCells b) w3 HT.out (by
          have := cSz_few (cCells b) 122 128 (few_slots b HL.out) (fun c hc => cut_short b HL.out c hc)
          omega) hy)
        have HU : Hid (unpN b = (0, [], 11)) := Lib.hid (unpN_no HL.out HG.out (fun h => hy (by have := h.1; rwa [HX.out] at this)))
        clear hy
        go_wp2_with (go_at_call 29; refine HP.out.mono ?_; rintro e w4 ⟨rfl, b4⟩; have B4 := Lib.hid b4; clear b4)
        go_ret3
        rw [HU.out]
        exact RUnpRow.no (below_step HB.out B4.out)

theorem r7Unpack_row (s : ByteArray) (w : World) (hs : s.size ≤ 1000000) : Calls Tryd.prog 21 #[.string s] w (RUnpRow (unpN s.data.toList) w) := by
  by_cases hl : s.size = 128
  · by_cases hg : isTag s.data.toList
    · exact r7Unpack_page s w hl hg
    · exact r7Unpack_sum s w hl hg
  · exact r7Unpack_len s w hs hl


def RUnpEnd (r : UInt8 × List (List UInt8) × Int) (w : World) (e : Ending) (w' : World) : Prop :=
  ∃ A n c, e = .returned (.tuple #[.int .u8 (r.1.toNat : Int), .slice A n c, .int .i64 r.2.2]) ∧ TxtA w' A n r.2.1 ∧ Below w.heap.size w w'
theorem r7Unpack_any (s : ByteArray) (w : World) (hs : s.size ≤ 1000000) : Calls Tryd.prog 21 #[.string s] w (RUnpEnd (unpN s.data.toList) w) :=
  (r7Unpack_row s w hs).mono fun _ _ ⟨A, n, c, he, h1, h2, _⟩ => ⟨A, n, c, he, h1, h2⟩

end Go.Proofs.YtdoabcbembinjaaDoor
