import Derived.Test.YtpikcodnonodlaaDoorJ04
import Derived.Test.YtpikcodnonodlaaDoorJCee
import Derived.Test.YtpikcodnonodlaaDoorJMtf
import Derived.Test.YtpikcodnonodlaaDoorJ00
import Derived.Test.YtpikcodnonodlaaDoorJ01
/- Of a claim's texts, joined: Cef Mtg Reft. No statement but in the last. -/
section
namespace Go.Proofs.YtpikcodnonodlaaDoor
open Go.RowKit
set_option linter.unusedVariables false

def RUnpRow (r : UInt8 × List (List UInt8) × Int) (w : World) (e : Ending) (w' : World) : Prop :=
  ∃ A n c, e = .returned (.tuple #[.int .u8 (r.1.toNat : Int), .slice A n c, .int .i64 r.2.2]) ∧ TxtA w' A n r.2.1 ∧ Below w.heap.size w w' ∧ Row w' 9 w.heap.size A (r.2.1.map cstV)
theorem RUnpRow.no {w w' : World} {er : Int} (h : Below w.heap.size w w') : RUnpRow (0, [], er) w (.returned (.tuple #[.int .u8 0, .slice none 0 0, .int .i64 er])) w' := ⟨none, 0, 0, rfl, ⟨rfl, Reads.empty⟩, h, Row.empty⟩
theorem r7Unpack_len (s : ByteArray) (w : World) (hs : s.size ≤ 1000000) (hl : s.size ≠ 128) :
    Calls Tryd.prog 31 #[.string s] w (RUnpRow (unpN s.data.toList) w) := by
  have hu : unpN s.data.toList = (0, [], 1) := by unfold unpN; rw [if_pos (show s.data.toList.length ≠ 128 from hl)]
  have hne : ((s.size : Int) != 128) = true := by simp; omega
  rw [hu]
  go_enter Tryd.func31, Tryd.ntmps31
  go_wp2
  go_ret3
  exact RUnpRow.no (Below.refl _ _)
theorem ext_cut (s : ByteArray) (a e : Nat) : s.extract a e = ⟨((s.data.toList.drop a).take (e - a)).toArray⟩ := by
  apply ByteArray.ext
  apply Array.ext'
  simp only [ByteArray.data_extract, Array.toList_extract, List.extract_eq_take_drop]
theorem isTag_four (b : List UInt8) (h : 4 ≤ b.length) : isTag b ↔ numB (ofN (b.drop 4)) 4 = b.take 4 := by
  constructor
  · intro ht
    have := congrArg (List.take 4) ht.2
    unfold tagB at this
    rwa [List.take_append_of_le_length (by rw [numB_len]; omega), List.take_of_length_le (by rw [numB_len]; omega)] at this
  · intro he
    refine ⟨h, ?_⟩
    unfold tagB
    rw [he, List.take_append_drop]

set_option maxRecDepth 100000 in
set_option maxHeartbeats 4000000 in
theorem r7Unpack_sum (s : ByteArray) (w : World) (hl : s.size = 128) (hg : ¬ isTag s.data.toList) :
    Calls Tryd.prog 31 #[.string s] w (RUnpRow (unpN s.data.toList) w) := by
  have hmx : Tryd.prog.follows .mixedOrders = true := by kernel_rfl
  have hln : s.data.toList.length = 128 := hl
  have hu : unpN s.data.toList = (0, [], 12) := by unfold unpN; rw [if_neg (by simpa using hln), if_pos hg]
  rw [hu]
  obtain ⟨T4, hT4⟩ : ∃ T, s.data.toList.take 4 = T := ⟨_, rfl⟩
  obtain ⟨T5, hT5⟩ : ∃ T, s.data.toList.drop 4 = T := ⟨_, rfl⟩
  have he0 : s.extract 0 4 = ⟨T4.toArray⟩ := by rw [ext_cut, ← hT4]; rfl
  have he4 : s.extract 4 128 = ⟨T5.toArray⟩ := by rw [ext_cut, ← hT5, List.take_of_length_le (by rw [List.length_drop]; omega)]
  have hT5l : T5.length ≤ 1000 := by rw [← hT5, List.length_drop]; omega
  rw [isTag_four _ (by omega), hT4, hT5] at hg
  have HOF := Lib.hid (fun W => r2Of_any ⟨T5.toArray⟩ W (by rw [size_list]; omega))
  have hfl := ofN_lt T5
  have HNM := Lib.hid (fun W => rNum_yes (ofN T5) 4 W (by omega) (by omega) (by omega))
  obtain ⟨f, hf⟩ : ∃ f, ofN T5 = f := ⟨_, rfl⟩
  simp only [hf] at HOF HNM hg hfl
  obtain ⟨NB, hNB⟩ : ∃ NB, numB f 4 = NB := ⟨_, rfl⟩
  simp only [hNB] at HNM hg
  have hwf : IntKind.u64.wrap (f : Int) = (f : Int) := IntWalk.u64_in _ (by omega)
  have hq : (NB == T4) = false := by simpa using hg
  clear hg hT4 hT5 hNB hf
  go_enter Tryd.func31, Tryd.ntmps31
  go_wp2
  rename_i K hK
  refine wp_held (fun w' : World => True) K hmx ?_ (fun _ _ h => h)
  refine wpAnyH_take (i := 0) (v := .string s) rfl (by kernel_rfl) (by kernel_rfl) (by kernel_rfl) (fun _ _ _ h => h) (Or.inl ⟨by rfl, ?_⟩) trivial ?_
  · rintro w6 s1
    go_simp
  simp only [Act.put, List.setIfInBounds_toArray, List.set_cons_zero, List.set_cons_succ, List.getElem_toArray, List.getElem_cons_zero]
  refine wpAnyH_take (i := 1) (v := .string ⟨T5.toArray⟩) rfl (by kernel_rfl) (by kernel_rfl) (by kernel_rfl) (fun _ _ _ h => h) (Or.inl ⟨by rfl, ?_⟩) trivial ?_
  · rintro w6 s1
    go_simp
  simp only [Act.put, List.setIfInBounds_toArray, List.set_cons_zero, List.set_cons_succ, List.getElem_toArray, List.getElem_cons_zero, List.getElem_cons_succ]
  refine wpAnyH_take (i := 5) (v := .string s) rfl (by kernel_rfl) (by kernel_rfl) (by kernel_rfl) (fun _ _ _ h => h) (Or.inl ⟨by rfl, ?_⟩) trivial ?_
  · rintro w6 s1
    go_simp
  simp only [Act.put, List.setIfInBounds_toArray, List.set_cons_zero, List.set_cons_succ, List.getElem_toArray, List.getElem_cons_zero, List.getElem_cons_succ]
  refine wpAnyH_take (i := 6) (v := .string ⟨T4.toArray⟩) rfl (by kernel_rfl) (by kernel_rfl) (by kernel_rfl) (fun _ _ _ h => h) (Or.inl ⟨by rfl, ?_⟩) trivial ?_
  · rintro w6 s1
    go_simp
  simp only [Act.put, List.setIfInBounds_toArray, List.set_cons_zero, List.set_cons_succ, List.getElem_toArray, List.getElem_cons_zero, List.getElem_cons_succ]
  refine wpAnyH_ready (rs := [2]) (by kernel_rfl) (by simp) ?_
  refine AllReadyH.cons rfl (fun K5 hK5 => ?_) AllReadyH.nil
  go_simp
  go_at_call 39
  refine (HOF.out _).mono ?_
  rintro e w1 ⟨rfl, rfl⟩
  refine hK5.out _ _ trivial (fun _ => ?_)
  clear hK5 K5
  refine wpAnyH_take (i := 3) (v := .int .u64 (f : Int)) rfl (by kernel_rfl) (by kernel_rfl) (by kernel_rfl) (fun _ _ _ h => h) (Or.inl ⟨by rfl, ?_⟩) trivial ?_
  · rintro w6 s1
    go_simp
  simp only [Act.put, List.setIfInBounds_toArray, List.set_cons_zero, List.set_cons_succ, List.getElem_toArray, List.getElem_cons_zero, List.getElem_cons_succ]
  refine wpAnyH_ready (rs := [4]) (by kernel_rfl) (by simp) ?_
  refine AllReadyH.cons rfl (fun K5 hK5 => ?_) AllReadyH.nil
  go_simp
  go_at_call 24
  refine (HNM.out _).mono ?_
  rintro e w2 ⟨rfl, k2⟩
  refine hK5.out _ _ trivial (fun _ => ?_)
  clear hK5 K5
  refine wpAnyH_take (i := 7) (v := .bool true) rfl (by kernel_rfl) (by kernel_rfl) (by kernel_rfl) (fun _ _ _ h => h) (Or.inl ⟨by rfl, ?_⟩) trivial ?_
  · rintro w6 s1
    go_simp
  simp only [Act.put, List.setIfInBounds_toArray, List.set_cons_zero, List.set_cons_succ, List.getElem_toArray, List.getElem_cons_zero, List.getElem_cons_succ]
  refine wpAnyH_done (by kernel_rfl) ?_ _
  refine hK _ _ ?_
  go_wp2
  go_ret3
  exact RUnpRow.no (by have := k2; exact below_step (Below.refl _ w).drew k2)

theorem idx_str (s : ByteArray) (i : Nat) (x : UInt8) (h : s.data.toList[i]? = some x) : ∃ hi : i < s.size, (s[i]'hi).toNat = x.toNat := by
  obtain ⟨h1, h2⟩ := List.getElem?_eq_some_iff.1 h
  exact ⟨h1, congrArg UInt8.toNat h2⟩
def RUnpSt (w : World) (b : List UInt8) (k : Nat) (v e : Value) (wr : World) : Prop :=
  ∃ (end_ : Nat) (done : List (List UInt8)), e = .int .i64 end_ ∧ end_ ≤ 128 ∧ done.length = k ∧ done ++ cCut b ((cSlotsOf b).drop k) end_ = cCells b ∧ wr.ownsRow w.heap.size 9 1 v k (done.map cstV) ∧ Below w.heap.size w wr
theorem slots_at (b : List UInt8) (hb : b.length = 128) (k : Nat) (hk : k < cCount b) (h6 : 6 + k < 128) : ∃ x, b[6 + k]? = some x ∧ (cSlotsOf b)[k]? = some x := by
  refine ⟨_, List.getElem?_eq_getElem (by omega), ?_⟩
  unfold cSlotsOf
  rw [List.getElem?_take, if_pos hk, List.getElem?_drop, List.getElem?_eq_getElem]
theorem few_slots (b : List UInt8) (hb : b.length = 128) : (cCells b).length ≤ 122 := by
  unfold cCells
  refine Nat.le_trans (cCut_len _ _ _) ?_
  unfold cSlotsOf
  rw [List.length_take, List.length_drop, hb]
  omega
theorem cut_short (b : List UInt8) (hb : b.length = 128) : ∀ c ∈ cCells b, c.length ≤ 128 := by
  have hall : ∀ (ss : List UInt8) (e : Nat), ∀ y ∈ cCut b ss e, y.length ≤ 128 := by
    intro ss
    induction ss with
    | nil => intro e y hy; simp [cCut] at hy
    | cons s ss ih =>
      intro e y hy
      simp only [cCut] at hy
      split at hy
      · cases hy
      · rcases List.mem_cons.1 hy with rfl | hy
        · rw [List.length_take, List.length_drop]
          omega
        · exact ih _ _ hy
  exact fun c hc => hall _ _ c hc

set_option maxRecDepth 100000 in
set_option maxHeartbeats 8000000 in
theorem r7Unpack_page (s : ByteArray) (w : World) (hl : s.size = 128) (hg : isTag s.data.toList) :
    Calls Tryd.prog 31 #[.string s] w (RUnpRow (unpN s.data.toList) w) := by
  have hmx : Tryd.prog.follows .mixedOrders = true := by kernel_rfl
  obtain ⟨j0, hj, jz0, jz1, jz2⟩ := info_parts stinfo
  have hln : s.data.toList.length = 128 := hl
  have HG := Lib.hid hg
  obtain ⟨T4, hT4⟩ : ∃ T, s.data.toList.take 4 = T := ⟨_, rfl⟩
  obtain ⟨T5, hT5⟩ : ∃ T, s.data.toList.drop 4 = T := ⟨_, rfl⟩
  have he0 : s.extract 0 4 = ⟨T4.toArray⟩ := by rw [ext_cut, ← hT4]; rfl
  have he4 : s.extract 4 128 = ⟨T5.toArray⟩ := by rw [ext_cut, ← hT5, List.take_of_length_le (by rw [List.length_drop]; omega)]
  have hT5l : T5.length ≤ 1000 := by rw [← hT5, List.length_drop]; omega
  rw [isTag_four _ (by omega), hT4, hT5] at hg
  have HOF := Lib.hid (fun W => r2Of_any ⟨T5.toArray⟩ W (by rw [size_list]; omega))
  have hfl := ofN_lt T5
  have HNM := Lib.hid (fun W => rNum_yes (ofN T5) 4 W (by omega) (by omega) (by omega))
  obtain ⟨f, hf⟩ : ∃ f, ofN T5 = f := ⟨_, rfl⟩
  simp only [hf] at HOF HNM hg hfl
  obtain ⟨NB, hNB⟩ : ∃ NB, numB f 4 = NB := ⟨_, rfl⟩
  simp only [hNB] at HNM hg
  have hwf : IntKind.u64.wrap (f : Int) = (f : Int) := IntWalk.u64_in _ (by omega)
  have hq : (NB == T4) = true := by simpa using hg
  clear hg hT4 hT5 hNB hf
  obtain ⟨x, hx⟩ : ∃ x, s.data.toList[4]? = some x := ⟨_, List.getElem?_eq_getElem (by omega)⟩
  obtain ⟨y, hy⟩ : ∃ y, s.data.toList[5]? = some y := ⟨_, List.getElem?_eq_getElem (by omega)⟩
  have HX : Hid (cKind s.data.toList = x) := Lib.hid (by unfold cKind; rw [hx]; rfl)
  have HY : Hid (cCount s.data.toList = y.toNat) := Lib.hid (by unfold cCount; rw [hy]; rfl)
  obtain ⟨hi4, hx4⟩ := idx_str s 4 x hx
  obtain ⟨hi5, hy5⟩ := idx_str s 5 y hy
  have HL := Lib.hid hln
  have HIX := Lib.hid (fun i x h => idx_str s i x h)
  have HEC := Lib.hid (fun a e => ext_cut s a e)
  obtain ⟨b, hb⟩ : ∃ b, s.data.toList = b := ⟨_, rfl⟩
  rw [hb] at HX HY HL HG HIX HEC ⊢
  have HSB : Hid (s.toList = b) := Lib.hid (by rw [ByteArray.toList_eq]; exact hb)
  have HSL := Lib.hid (fun k hk h6 => slots_at b HL.out k hk h6)
  have hyl := y.toNat_lt
  have hxl := x.toNat_lt
  clear hln hx hy hb
  obtain ⟨n, hn⟩ : ∃ n, y.toNat = n := ⟨_, rfl⟩
  rw [hn] at HY hy5 hyl
  clear hn
  go_enter Tryd.func31, Tryd.ntmps31
  go_wp2
  rename_i K hK
  refine wp_held (fun w' : World => True) K hmx ?_ (fun _ _ h => h)
  refine wpAnyH_take (i := 0) (v := .string s) rfl (by kernel_rfl) (by kernel_rfl) (by kernel_rfl) (fun _ _ _ h => h) (Or.inl ⟨by rfl, ?_⟩) trivial ?_
  · rintro w6 s1
    go_simp
  simp only [Act.put, List.setIfInBounds_toArray, List.set_cons_zero, List.set_cons_succ, List.getElem_toArray, List.getElem_cons_zero]
  refine wpAnyH_take (i := 1) (v := .string ⟨T5.toArray⟩) rfl (by kernel_rfl) (by kernel_rfl) (by kernel_rfl) (fun _ _ _ h => h) (Or.inl ⟨by rfl, ?_⟩) trivial ?_
  · rintro w6 s1
    go_simp
  simp only [Act.put, List.setIfInBounds_toArray, List.set_cons_zero, List.set_cons_succ, List.getElem_toArray, List.getElem_cons_zero, List.getElem_cons_succ]
  refine wpAnyH_take (i := 5) (v := .string s) rfl (by kernel_rfl) (by kernel_rfl) (by kernel_rfl) (fun _ _ _ h => h) (Or.inl ⟨by rfl, ?_⟩) trivial ?_
  · rintro w6 s1
    go_simp
  simp only [Act.put, List.setIfInBounds_toArray, List.set_cons_zero, List.set_cons_succ, List.getElem_toArray, List.getElem_cons_zero, List.getElem_cons_succ]
  refine wpAnyH_take (i := 6) (v := .string ⟨T4.toArray⟩) rfl (by kernel_rfl) (by kernel_rfl) (by kernel_rfl) (fun _ _ _ h => h) (Or.inl ⟨by rfl, ?_⟩) trivial ?_
  · rintro w6 s1
    go_simp
  simp only [Act.put, List.setIfInBounds_toArray, List.set_cons_zero, List.set_cons_succ, List.getElem_toArray, List.getElem_cons_zero, List.getElem_cons_succ]
  refine wpAnyH_ready (rs := [2]) (by kernel_rfl) (by simp) ?_
  refine AllReadyH.cons rfl (fun K5 hK5 => ?_) AllReadyH.nil
  go_simp
  go_at_call 39
  refine (HOF.out _).mono ?_
  rintro e w1 ⟨rfl, rfl⟩
  refine hK5.out _ _ trivial (fun _ => ?_)
  clear hK5 K5
  refine wpAnyH_take (i := 3) (v := .int .u64 (f : Int)) rfl (by kernel_rfl) (by kernel_rfl) (by kernel_rfl) (fun _ _ _ h => h) (Or.inl ⟨by rfl, ?_⟩) trivial ?_
  · rintro w6 s1
    go_simp
  simp only [Act.put, List.setIfInBounds_toArray, List.set_cons_zero, List.set_cons_succ, List.getElem_toArray, List.getElem_cons_zero, List.getElem_cons_succ]
  refine wpAnyH_ready (rs := [4]) (by kernel_rfl) (by simp) ?_
  refine AllReadyH.cons rfl (fun K5 hK5 => ?_) AllReadyH.nil
  go_simp
  go_at_call 24
  refine (HNM.out _).mono ?_
  rintro e w2 ⟨rfl, k2⟩
  refine hK5.out _ _ trivial (fun _ => ?_)
  clear hK5 K5
  refine wpAnyH_take (i := 7) (v := .bool false) rfl (by kernel_rfl) (by kernel_rfl) (by kernel_rfl) (fun _ _ _ h => h) (Or.inl ⟨by rfl, ?_⟩) trivial ?_
  · rintro w6 s1
    go_simp
  simp only [Act.put, List.setIfInBounds_toArray, List.set_cons_zero, List.set_cons_succ, List.getElem_toArray, List.getElem_cons_zero, List.getElem_cons_succ]
  refine wpAnyH_done (by kernel_rfl) ?_ _
  refine hK _ _ ?_
  go_wp2
  have k2 := Lib.hid (below_step (Below.refl _ w).drew k2)
  go_loopw [6, 7, 8] (fun e v i wr => ∃ k : Nat, k ≤ n ∧ i = .int .i64 k ∧ RUnpSt w b k v e wr) (fun _ _ i _ => n - (intOf i).toNat)
  case atStart => exact ⟨0, Nat.zero_le _, rfl, 128, [], rfl, Nat.le_refl _, rfl, rfl, st_own_nil _ _, k2.out⟩
  case round =>
    obtain ⟨k, hk, rfl, hST⟩ := hrel
    have ST := Lib.hid hST
    clear hST
    by_cases hlt : k < n
    · obtain ⟨end_, done, rfl, he, hqk, hcut, hO, hB⟩ := ST.out
      have HO := Lib.hid hO
      have HB := Lib.hid hB
      have HQ := Lib.hid hqk
      have HCT := Lib.hid hcut
      clear hO hB hqk hcut
      by_cases h6 : 6 + k < 128
      · obtain ⟨sl, hs1, hs2⟩ := HSL.out k (by rw [HY.out]; exact hlt) h6
        obtain ⟨hik, hkv⟩ := HIX.out (6 + k) sl hs1
        have hsl := sl.toNat_lt
        by_cases hse : sl.toNat ≤ end_
        · have CC := Lib.hid (cCut_cons b (cSlotsOf b) k end_ sl hs2 hse)
          clear hs1 hs2
          generalize sl.toNat = t at *
          have hext := HEC.out t end_
          obtain ⟨C, hC⟩ : ∃ C, (b.drop t).take (end_ - t) = C := ⟨_, rfl⟩
          rw [hC] at CC hext
          clear hC
          have b1 : ¬ ((end_ : Int) < (t : Int)) := by omega
          obtain ⟨sz, hsz⟩ : ∃ z : ByteArray, (⟨C.toArray⟩ : ByteArray) = z := ⟨_, rfl⟩
          have HCS : Hid (cstV C = .string sz) := Lib.hid (by rw [← hsz]; rfl)
          rw [hsz] at hext
          clear hsz
          go_wp2_with (at_builtin; refine wpList_append_one rfl _ _ 56 9 rfl w.heap.size 9 j0 _ 16 Tryd.underlying56 hj jz0 jz1 jz2 rfl _ k _ rfl HO.out (.string sz) rfl rfl ?_ ?_ ?_ ?_; (omega); (unfold maxLen; omega); (exact HB.out.size); intro v4 w4 h7 h8; have O4 := Lib.hid h7; have B4 := Lib.hid (HB.out.trans h8); clear h7 h8)
          go_roundw
          case rel =>
            refine ⟨k + 1, by omega, by go_num, t, done ++ [C], rfl, by omega, by simp [HQ.out], ?_, ?_, B4.out⟩
            · have h1 := HCT.out
              rw [CC.out] at h1
              rw [List.append_assoc]
              exact h1
            · rw [List.map_append, List.map_cons, List.map_nil, HCS.out]
              exact O4.out
          case measure => simp [intOf]; omega
        · have HU : Hid (unpN b = (0, [], 11)) := Lib.hid (unpN_no HL.out HG.out (fun h => by
            have h1 := cForm_count h
            have h2 := HCT.out
            rw [cCut_stop b (cSlotsOf b) k end_ sl hs2 hse, List.append_nil] at h2
            rw [← h2, HQ.out, HY.out] at h1
            omega))
          rw [HU.out]
          clear hs1 hs2
          generalize sl.toNat = t at *
          have b1 : (end_ : Int) < (t : Int) := by omega
          obtain ⟨w3, hw3⟩ : ∃ w3 : World, w3 = wr := ⟨_, rfl⟩
          subst hw3
          go_wp2
          go_ret3
          exact RUnpRow.no HB.out
      · have HU : Hid (unpN b = (0, [], 11)) := Lib.hid (unpN_no HL.out HG.out (fun h => by
          have h1 := cForm_count h
          have h2 := few_slots b HL.out
          rw [HY.out] at h1
          omega))
        rw [HU.out]
        have b6 : (128 : Int) ≤ 6 + (k : Int) := by omega
        obtain ⟨w3, hw3⟩ : ∃ w3 : World, w3 = wr := ⟨_, rfl⟩
        subst hw3
        go_wp2
        go_ret3
        exact RUnpRow.no HB.out
    · obtain ⟨end_, done, rfl, he, hqk, hcut, hO, hB⟩ := ST.out
      obtain rfl : k = n := by omega
      have hnil : (cSlotsOf b).drop k = [] := List.drop_eq_nil_of_le (by unfold cSlotsOf; rw [List.length_take, HY.out]; omega)
      rw [hnil] at hcut
      have hdn : done = cCells b := by rw [← hcut]; simp [cCut]
      subst hdn
      obtain ⟨A2, c2, rfl, _, hT⟩ := TxtA.of_own hO
      have HRW := Lib.hid (Row.of_own hO)
      have HB := Lib.hid hB
      have HT := Lib.hid hT
      clear hO hB hT hnil hcut hqk
      obtain ⟨w3, hw3⟩ : ∃ w3 : World, w3 = wr := ⟨_, rfl⟩
      subst hw3
      by_cases hy : cFits x (cCells b)
      · have HP := Lib.hid (r7Pack_yes x A2 k c2 (cCells b) w3 HT.out hy)
        have HPL := Lib.hid (cPage_len x (cCells b) hy.2)
        have hpl : (cPage x (cCells b)).length ≤ 1000 := by rw [HPL.out]; omega
        by_cases hee : cPage x (cCells b) = b
        · have HU : Hid (unpN b = (x, cCells b, 0)) := Lib.hid (by rw [unpN_yes HL.out HG.out ⟨by rw [HX.out]; exact hy, by rw [HX.out]; exact hee⟩, HX.out])
          have hqq : (cPage x (cCells b) == s.toList) = true := by rw [HSB.out, hee]; simp
          clear hy hee
          generalize cPage x (cCells b) = PG at *
          go_wp2_with (go_at_call 25; refine HP.out.mono ?_; rintro e w4 ⟨rfl, b4⟩; have B4 := Lib.hid b4; clear b4)
          go_ret3
          rw [HU.out]
          exact ⟨A2, k, c2, rfl, HT.out.below B4.out, below_step HB.out B4.out, HRW.out.below B4.out⟩
        · have HU : Hid (unpN b = (0, [], 11)) := Lib.hid (unpN_no HL.out HG.out (fun h => hee (by have := h.2; rwa [HX.out] at this)))
          have hqq : (cPage x (cCells b) == s.toList) = false := by rw [HSB.out]; simpa using hee
          clear hy hee
          generalize cPage x (cCells b) = PG at *
          go_wp2_with (go_at_call 25; refine HP.out.mono ?_; rintro e w4 ⟨rfl, b4⟩; have B4 := Lib.hid b4; clear b4)
          go_ret3
          rw [HU.out]
          exact RUnpRow.no (below_step HB.out B4.out)
      · have HP := Lib.hid (r7Pack_no x A2 k c2 (cCells b) w3 HT.out (by
          have := cSz_few (cCells b) 122 128 (few_slots b HL.out) (fun c hc => cut_short b HL.out c hc)
          omega) hy)
        have HU : Hid (unpN b = (0, [], 11)) := Lib.hid (unpN_no HL.out HG.out (fun h => hy (by have := h.1; rwa [HX.out] at this)))
        clear hy
        go_wp2_with (go_at_call 25; refine HP.out.mono ?_; rintro e w4 ⟨rfl, b4⟩; have B4 := Lib.hid b4; clear b4)
        go_ret3
        rw [HU.out]
        exact RUnpRow.no (below_step HB.out B4.out)

theorem r7Unpack_row (s : ByteArray) (w : World) (hs : s.size ≤ 1000000) : Calls Tryd.prog 31 #[.string s] w (RUnpRow (unpN s.data.toList) w) := by
  by_cases hl : s.size = 128
  · by_cases hg : isTag s.data.toList
    · exact r7Unpack_page s w hl hg
    · exact r7Unpack_sum s w hl hg
  · exact r7Unpack_len s w hs hl


def RUnpEnd (r : UInt8 × List (List UInt8) × Int) (w : World) (e : Ending) (w' : World) : Prop :=
  ∃ A n c, e = .returned (.tuple #[.int .u8 (r.1.toNat : Int), .slice A n c, .int .i64 r.2.2]) ∧ TxtA w' A n r.2.1 ∧ Below w.heap.size w w'
theorem r7Unpack_any (s : ByteArray) (w : World) (hs : s.size ≤ 1000000) : Calls Tryd.prog 31 #[.string s] w (RUnpEnd (unpN s.data.toList) w) :=
  (r7Unpack_row s w hs).mono fun _ _ ⟨A, n, c, he, h1, h2, _⟩ => ⟨A, n, c, he, h1, h2⟩

end Go.Proofs.YtpikcodnonodlaaDoor
end

section
namespace Go.Proofs.YtpikcodnonodlaaDoor
open Go.RowKit
set_option linter.unusedVariables false

theorem unpN_ok10 {b : List UInt8} (h : (unpN b).2.2 = 0) : b.length = 128 ∧ cFits (unpN b).1 (unpN b).2.1 ∧ cPage (unpN b).1 (unpN b).2.1 = b ∧ (∀ c ∈ (unpN b).2.1, c.length ≤ 128) ∧ (unpN b).2.1.length ≤ 122 := by
  by_cases hb : b.length = 128
  · by_cases ht : isTag b
    · by_cases hf : cForm b
      · rw [unpN_yes hb ht hf]
        exact ⟨hb, hf.1, hf.2, cut_short b hb, few_slots b hb⟩
      · rw [unpN_no hb ht hf] at h
        exact absurd h (by decide)
    · unfold unpN at h
      rw [if_neg (by rw [hb]; simp), if_pos ht] at h
      exact absurd h (by decide)
  · unfold unpN at h
    rw [if_pos hb] at h
    exact absurd h (by decide)
theorem readM_txn (c : List UInt8) : (readM c).txn < 18446744073709551616 := stN_lt8 _ _
def GetM10 (r : Mt × Int) (w : World) (e : Ending) (w' : World) : Prop := e = .returned (.tuple #[mtV r.1, .int .i64 r.2]) ∧ Below w.heap.size w w'
theorem lq_one10 {q : List Hd} {n : Nat} {l : List UInt8} (hn : n = q.length) (h : lq q = [l]) : ∃ y, q = [y] ∧ n = 1 ∧ y.l = l := by
  rcases q with _ | ⟨y, _ | ⟨z, q⟩⟩
  · cases h
  · injection h with h _
    exact ⟨y, rfl, hn, h⟩
  · injection h with _ h
    cases h
theorem lq_len10 {q : List Hd} {n : Nat} {ls : List (List UInt8)} (hn : n = q.length) (h : lq q = ls) : n = ls.length := by
  rw [← h, lq_len]
  exact hn
set_option maxRecDepth 100000 in
set_option maxHeartbeats 4000000 in
theorem mGet_er (A : Option Addr) (n c : Nat) (b : List UInt8) (w : World) (ht : Tab w) (h : Arg w A n c b) (he : (unpN b).2.2 ≠ 0) :
    Calls Tryd.prog 16 #[.slice A n c] w (GetM10 (mt0, (unpN b).2.2) w) := by
  have hz := zero_meta
  obtain ⟨W, hW, hb, hh, hs⟩ := mbox0 w 24
  have HB := Lib.hid hb
  have HH := Lib.hid hh
  have HU := Lib.hid (ceUnpack_any A n c b W (ht.below hb) (h.below hb))
  obtain ⟨k, ls, er, hu⟩ : ∃ k ls er, unpN b = (k, ls, er) := ⟨_, _, _, rfl⟩
  rw [hu] at HU he ⊢
  simp only at he ⊢
  have he2 : (er != 0) = true := by simpa using he
  clear h ht hb hh hu he hs
  go_enter Tryd.func16, Tryd.ntmps16
  go_wp2_with (go_at_call 28; (try rw [hW]); (with_reducible refine HU.out.mono ?_); rintro r1 w1 ⟨A1, n1, c1, q1, rfl, k1, k2, b1⟩; have y1 := HH.out.below b1 HH.out.lt; have f10 := y1.free 0; have f11 := y1.free 1; have f12 := y1.free 2; have f13 := y1.free 3; have f14 := y1.free 4; have c10 := y1.cell 0; have c11 := y1.cell 1; have c12 := y1.cell 2; have c13 := y1.cell 3; have c14 := y1.cell 4; have X1 := Lib.hid y1; have B1 := Lib.hid (below_step HB.out b1); clear k1 k2 b1 y1)
  have XE := X1.out.setM (.int .i64 0) (.int .u64 0) (.int .i64 0) (.int .i64 0) (.int .i64 0)
  have q0 := XE.cell 0
  have q1 := XE.cell 1
  have q2 := XE.cell 2
  have q3 := XE.cell 3
  have q4 := XE.cell 4
  unfold stM5 at q0 q1 q2 q3 q4
  refine ⟨rfl, .tuple #[.agg #[.int .i64 0, .int .u64 0, .int .i64 0, .int .i64 0, .int .i64 0], .int .i64 er], ?_, rfl, below_setM B1.out (Nat.le_refl _) (.int .i64 0) (.int .u64 0) (.int .i64 0) (.int .i64 0) (.int .i64 0)⟩
  simp at q0 q1 q2 q3 q4
  simp [results, Tryd.f16, go_sem, q0, q1, q2, q3, q4]
set_option maxRecDepth 100000 in
set_option maxHeartbeats 4000000 in
theorem mGet_len (A : Option Addr) (n c : Nat) (b : List UInt8) (w : World) (ht : Tab w) (h : Arg w A n c b) (he : (unpN b).2.2 = 0) (hl : (unpN b).2.1.length ≠ 1) :
    Calls Tryd.prog 16 #[.slice A n c] w (GetM10 (mt0, 11) w) := by
  have hz := zero_meta
  obtain ⟨W, hW, hb, hh, hs⟩ := mbox0 w 24
  have HB := Lib.hid hb
  have HH := Lib.hid hh
  have HU := Lib.hid (ceUnpack_any A n c b W (ht.below hb) (h.below hb))
  obtain ⟨k, ls, er, hu⟩ : ∃ k ls er, unpN b = (k, ls, er) := ⟨_, _, _, rfl⟩
  rw [hu] at HU he hl
  simp only at he hl
  subst he
  have HLL : Hid (∀ n : Nat, n = ls.length → ((n : Int) != 1) = true) := Lib.hid (fun n hn => by simp; omega)
  clear h ht hb hh hu hs hl
  go_enter Tryd.func16, Tryd.ntmps16
  go_wp2_with (go_at_call 28; (try rw [hW]); (with_reducible refine HU.out.mono ?_); rintro r1 w1 ⟨A1, n1, c1, q1, rfl, k1, k2, b1⟩; have hnn := HLL.out n1 (lq_len10 k1.len k2); have y1 := HH.out.below b1 HH.out.lt; have f10 := y1.free 0; have f11 := y1.free 1; have f12 := y1.free 2; have f13 := y1.free 3; have f14 := y1.free 4; have c10 := y1.cell 0; have c11 := y1.cell 1; have c12 := y1.cell 2; have c13 := y1.cell 3; have c14 := y1.cell 4; have X1 := Lib.hid y1; have B1 := Lib.hid (below_step HB.out b1); clear k1 k2 b1 y1)
  have XE := X1.out.setM (.int .i64 0) (.int .u64 0) (.int .i64 0) (.int .i64 0) (.int .i64 0)
  have q0 := XE.cell 0
  have q1 := XE.cell 1
  have q2 := XE.cell 2
  have q3 := XE.cell 3
  have q4 := XE.cell 4
  unfold stM5 at q0 q1 q2 q3 q4
  refine ⟨rfl, .tuple #[.agg #[.int .i64 0, .int .u64 0, .int .i64 0, .int .i64 0, .int .i64 0], .int .i64 11], ?_, rfl, below_setM B1.out (Nat.le_refl _) (.int .i64 0) (.int .u64 0) (.int .i64 0) (.int .i64 0) (.int .i64 0)⟩
  simp at q0 q1 q2 q3 q4
  simp [results, Tryd.f16, go_sem, q0, q1, q2, q3, q4]
set_option maxRecDepth 100000 in
set_option maxHeartbeats 4000000 in
theorem mGet_no (A : Option Addr) (n c : Nat) (b : List UInt8) (k : UInt8) (cb : List UInt8) (w : World) (ht : Tab w) (h : Arg w A n c b) (he : unpN b = (k, [cb], 0)) (hc : ¬ checkM (readM cb)) :
    Calls Tryd.prog 16 #[.slice A n c] w (GetM10 (mt0, 11) w) := by
  have hz := zero_meta
  obtain ⟨W, hW, hb, hh, hs⟩ := mbox0 w 24
  have HB := Lib.hid hb
  have HH := Lib.hid hh
  have hcl : cb.length ≤ 128 := (unpN_ok10 (b := b) (by rw [he])).2.2.2.1 cb (by rw [he]; simp)
  have HU := Lib.hid (ceUnpack_any A n c b W (ht.below hb) (h.below hb))
  rw [he] at HU
  have HRD := Lib.hid (fun A n c w1 (h : Arg w1 A n c cb) => mRead_any A n c cb w1 h (by omega))
  have HP := Lib.hid (fun w1 => mPut_no (readM cb) w1 hc)
  unfold PackNo10 at HP
  generalize readM cb = mm at HRD HP hc ⊢
  obtain ⟨label, txn, root, list, high⟩ := mm
  simp only [mtV] at HRD HP ⊢
  clear h ht hb hh he hs hc
  go_enter Tryd.func16, Tryd.ntmps16
  go_wp2_with (first
    | (go_at_call 28; (try rw [hW]); (with_reducible refine HU.out.mono ?_); rintro r1 w1 ⟨A1, n1, c1, q1, rfl, k1, k2, b1⟩; obtain ⟨y, rfl, rfl, hy⟩ := lq_one10 k1.len k2; obtain ⟨ya, yn, yc, yl⟩ := y; obtain rfl : yl = cb := hy; obtain ⟨gg, goff, rfl, hrd⟩ := k1.at (k := 0) (by simp); have hrd2 : w1.cell? ⟨gg, goff, none⟩ = some (.slice ya yn yc) := hrd; have RA := Lib.hid (k1.hdr (k := 0) (by simp)); have X1 := Lib.hid (HH.out.below b1 HH.out.lt); have B1 := Lib.hid (below_step HB.out b1); clear k1 k2 b1 hrd)
    | (go_at_call 29; (with_reducible refine (HRD.out _ _ _ _ RA.out).mono ?_); rintro r2 w2 ⟨rfl, b2⟩; have X2 := Lib.hid (X1.out.below b2 X1.out.lt); have B2 := Lib.hid (below_step B1.out b2); obtain ⟨w3, hw3⟩ : ∃ w3, w2.alloc (.cells #[.int .i64 label, .int .u64 (txn : Int), .int .i64 root, .int .i64 list, .int .i64 high] 24) = w3 := ⟨_, rfl⟩; have y3 := hw3 ▸ Has.made w2 24 #[.int .i64 label, .int .u64 (txn : Int), .int .i64 root, .int .i64 list, .int .i64 high]; have b3 : Below w2.heap.size w2 w3 := hw3 ▸ (Below.refl _ w2).alloc (Nat.le_refl _) _; have X3 := Lib.hid (X2.out.below b3 X2.out.lt); have B3 := Lib.hid (below_step B2.out b3); have d0 := y3.cell 0; have d1 := y3.cell 1; have d2 := y3.cell 2; have d3 := y3.cell 3; have d4 := y3.cell 4; have Y3 := Lib.hid y3; clear b2 b3 y3)
    | (go_at_call 9; (try rw [hw3]); (with_reducible refine (HP.out _).mono ?_); rintro r4 w4 ⟨rfl, b4⟩; have y4 := X3.out.below b4 X3.out.lt; have f40 := y4.free 0; have f41 := y4.free 1; have f42 := y4.free 2; have f43 := y4.free 3; have f44 := y4.free 4; have c40 := y4.cell 0; have c41 := y4.cell 1; have c42 := y4.cell 2; have c43 := y4.cell 3; have c44 := y4.cell 4; have X4 := Lib.hid y4; have B4 := Lib.hid (below_step B3.out b4); clear b4 y4))
  have XE := X4.out.setM (.int .i64 0) (.int .u64 0) (.int .i64 0) (.int .i64 0) (.int .i64 0)
  have q0 := XE.cell 0
  have q1 := XE.cell 1
  have q2 := XE.cell 2
  have q3 := XE.cell 3
  have q4 := XE.cell 4
  unfold stM5 at q0 q1 q2 q3 q4
  refine ⟨rfl, .tuple #[.agg #[.int .i64 0, .int .u64 0, .int .i64 0, .int .i64 0, .int .i64 0], .int .i64 11], ?_, rfl, below_setM B4.out (Nat.le_refl _) (.int .i64 0) (.int .u64 0) (.int .i64 0) (.int .i64 0) (.int .i64 0)⟩
  simp at q0 q1 q2 q3 q4
  simp [results, Tryd.f16, go_sem, q0, q1, q2, q3, q4]
set_option maxRecDepth 100000 in
set_option maxHeartbeats 4000000 in
theorem mGet_not (A : Option Addr) (n c : Nat) (b : List UInt8) (k : UInt8) (cb : List UInt8) (w : World) (ht : Tab w) (h : Arg w A n c b) (he : unpN b = (k, [cb], 0)) (hc : checkM (readM cb)) (hv : cPage 5 [cellM (readM cb)] ≠ b) :
    Calls Tryd.prog 16 #[.slice A n c] w (GetM10 (mt0, 11) w) := by
  have hz := zero_meta
  obtain ⟨W, hW, hb, hh, hs⟩ := mbox0 w 24
  have HB := Lib.hid hb
  have HH := Lib.hid hh
  have hcl : cb.length ≤ 128 := (unpN_ok10 (b := b) (by rw [he])).2.2.2.1 cb (by rw [he]; simp)
  have HU := Lib.hid (ceUnpack_any A n c b W (ht.below hb) (h.below hb))
  rw [he] at HU
  have HRD := Lib.hid (fun A n c w1 (h : Arg w1 A n c cb) => mRead_any A n c cb w1 h (by omega))
  have HP := Lib.hid (fun w1 ht => mPut_yes (readM cb) w1 ht hc (readM_txn cb))
  unfold PackOk at HP
  have HV : Hid ((cPage 5 [cellM (readM cb)] == b) = false) := Lib.hid (by exact beq_false_of_ne hv)
  have HPL : Hid ((cPage 5 [cellM (readM cb)]).length = 128) := Lib.hid (pageM_len _)
  clear hv
  generalize cPage 5 [cellM (readM cb)] = pg at HP HV HPL
  have HT := Lib.hid ht
  have HA := Lib.hid h
  generalize readM cb = mm at HRD HP hc ⊢
  obtain ⟨label, txn, root, list, high⟩ := mm
  simp only [mtV] at HRD HP ⊢
  clear h ht hb hh he hs hc
  go_enter Tryd.func16, Tryd.ntmps16
  go_wp2_with (first
    | (go_at_call 28; (try rw [hW]); (with_reducible refine HU.out.mono ?_); rintro r1 w1 ⟨A1, n1, c1, q1, rfl, k1, k2, b1⟩; obtain ⟨y, rfl, rfl, hy⟩ := lq_one10 k1.len k2; obtain ⟨ya, yn, yc, yl⟩ := y; obtain rfl : yl = cb := hy; obtain ⟨gg, goff, rfl, hrd⟩ := k1.at (k := 0) (by simp); have hrd2 : w1.cell? ⟨gg, goff, none⟩ = some (.slice ya yn yc) := hrd; have RA := Lib.hid (k1.hdr (k := 0) (by simp)); have X1 := Lib.hid (HH.out.below b1 HH.out.lt); have B1 := Lib.hid (below_step HB.out b1); clear k1 k2 b1 hrd)
    | (go_at_call 29; (with_reducible refine (HRD.out _ _ _ _ RA.out).mono ?_); rintro r2 w2 ⟨rfl, b2⟩; have X2 := Lib.hid (X1.out.below b2 X1.out.lt); have B2 := Lib.hid (below_step B1.out b2); obtain ⟨w3, hw3⟩ : ∃ w3, w2.alloc (.cells #[.int .i64 label, .int .u64 (txn : Int), .int .i64 root, .int .i64 list, .int .i64 high] 24) = w3 := ⟨_, rfl⟩; have y3 := hw3 ▸ Has.made w2 24 #[.int .i64 label, .int .u64 (txn : Int), .int .i64 root, .int .i64 list, .int .i64 high]; have b3 : Below w2.heap.size w2 w3 := hw3 ▸ (Below.refl _ w2).alloc (Nat.le_refl _) _; have X3 := Lib.hid (X2.out.below b3 X2.out.lt); have B3 := Lib.hid (below_step B2.out b3); have d0 := y3.cell 0; have d1 := y3.cell 1; have d2 := y3.cell 2; have d3 := y3.cell 3; have d4 := y3.cell 4; have Y3 := Lib.hid y3; clear b2 b3 y3)
    | (go_at_call 9; (try rw [hw3]); (with_reducible refine (HP.out _ (HT.out.below B3.out)).mono ?_); rintro r4 w4 ⟨A4, c4, rfl, g1, g2, g3, b4⟩; have G3 := Lib.hid g3.reads; have X4 := Lib.hid (X3.out.below b4 X3.out.lt); have Y4 := Lib.hid (Y3.out.below b4 Y3.out.lt); have B4 := Lib.hid (below_step B3.out b4); clear b4 g3)
    | (go_at_call 30; (with_reducible refine (beq_any A4 A 128 c4 n c pg b w4 _ HV.out HPL.out.symm HA.out.len G3.out (HA.out.below B4.out).reads).mono ?_); rintro r5 w5 ⟨rfl, rfl⟩; have y5 := X4.out; have f50 := y5.free 0; have f51 := y5.free 1; have f52 := y5.free 2; have f53 := y5.free 3; have f54 := y5.free 4; have c50 := y5.cell 0; have c51 := y5.cell 1; have c52 := y5.cell 2; have c53 := y5.cell 3; have c54 := y5.cell 4; have z5 := Y4.out; have e50 := z5.cell 0; have e51 := z5.cell 1; have e52 := z5.cell 2; have e53 := z5.cell 3; have e54 := z5.cell 4; clear y5 z5))
  have XE := X4.out.setM (.int .i64 0) (.int .u64 0) (.int .i64 0) (.int .i64 0) (.int .i64 0)
  have q0 := XE.cell 0
  have q1 := XE.cell 1
  have q2 := XE.cell 2
  have q3 := XE.cell 3
  have q4 := XE.cell 4
  unfold stM5 at q0 q1 q2 q3 q4
  refine ⟨rfl, .tuple #[.agg #[.int .i64 0, .int .u64 0, .int .i64 0, .int .i64 0, .int .i64 0], .int .i64 11], ?_, rfl, below_setM B4.out (Nat.le_refl _) (.int .i64 0) (.int .u64 0) (.int .i64 0) (.int .i64 0) (.int .i64 0)⟩
  simp at q0 q1 q2 q3 q4
  simp [results, Tryd.f16, go_sem, q0, q1, q2, q3, q4]
set_option maxRecDepth 100000 in
set_option maxHeartbeats 4000000 in
theorem mGet_yes (A : Option Addr) (n c : Nat) (b : List UInt8) (k : UInt8) (cb : List UInt8) (w : World) (ht : Tab w) (h : Arg w A n c b) (he : unpN b = (k, [cb], 0)) (hc : checkM (readM cb)) (hv : cPage 5 [cellM (readM cb)] = b) :
    Calls Tryd.prog 16 #[.slice A n c] w (GetM10 (readM cb, 0) w) := by
  have hz := zero_meta
  obtain ⟨W, hW, hb, hh, hs⟩ := mbox0 w 24
  have HB := Lib.hid hb
  have HH := Lib.hid hh
  have hcl : cb.length ≤ 128 := (unpN_ok10 (b := b) (by rw [he])).2.2.2.1 cb (by rw [he]; simp)
  have HU := Lib.hid (ceUnpack_any A n c b W (ht.below hb) (h.below hb))
  rw [he] at HU
  have HRD := Lib.hid (fun A n c w1 (h : Arg w1 A n c cb) => mRead_any A n c cb w1 h (by omega))
  have HP := Lib.hid (fun w1 ht => mPut_yes (readM cb) w1 ht hc (readM_txn cb))
  unfold PackOk at HP
  have HV : Hid ((cPage 5 [cellM (readM cb)] == b) = true) := Lib.hid (by rw [beq_iff_eq]; exact hv)
  have HPL : Hid ((cPage 5 [cellM (readM cb)]).length = 128) := Lib.hid (pageM_len _)
  clear hv
  generalize cPage 5 [cellM (readM cb)] = pg at HP HV HPL
  have HT := Lib.hid ht
  have HA := Lib.hid h
  generalize readM cb = mm at HRD HP hc ⊢
  obtain ⟨label, txn, root, list, high⟩ := mm
  simp only [mtV] at HRD HP ⊢
  clear h ht hb hh he hs hc
  go_enter Tryd.func16, Tryd.ntmps16
  go_wp2_with (first
    | (go_at_call 28; (try rw [hW]); (with_reducible refine HU.out.mono ?_); rintro r1 w1 ⟨A1, n1, c1, q1, rfl, k1, k2, b1⟩; obtain ⟨y, rfl, rfl, hy⟩ := lq_one10 k1.len k2; obtain ⟨ya, yn, yc, yl⟩ := y; obtain rfl : yl = cb := hy; obtain ⟨gg, goff, rfl, hrd⟩ := k1.at (k := 0) (by simp); have hrd2 : w1.cell? ⟨gg, goff, none⟩ = some (.slice ya yn yc) := hrd; have RA := Lib.hid (k1.hdr (k := 0) (by simp)); have X1 := Lib.hid (HH.out.below b1 HH.out.lt); have B1 := Lib.hid (below_step HB.out b1); clear k1 k2 b1 hrd)
    | (go_at_call 29; (with_reducible refine (HRD.out _ _ _ _ RA.out).mono ?_); rintro r2 w2 ⟨rfl, b2⟩; have X2 := Lib.hid (X1.out.below b2 X1.out.lt); have B2 := Lib.hid (below_step B1.out b2); obtain ⟨w3, hw3⟩ : ∃ w3, w2.alloc (.cells #[.int .i64 label, .int .u64 (txn : Int), .int .i64 root, .int .i64 list, .int .i64 high] 24) = w3 := ⟨_, rfl⟩; have y3 := hw3 ▸ Has.made w2 24 #[.int .i64 label, .int .u64 (txn : Int), .int .i64 root, .int .i64 list, .int .i64 high]; have b3 : Below w2.heap.size w2 w3 := hw3 ▸ (Below.refl _ w2).alloc (Nat.le_refl _) _; have X3 := Lib.hid (X2.out.below b3 X2.out.lt); have B3 := Lib.hid (below_step B2.out b3); have d0 := y3.cell 0; have d1 := y3.cell 1; have d2 := y3.cell 2; have d3 := y3.cell 3; have d4 := y3.cell 4; have Y3 := Lib.hid y3; clear b2 b3 y3)
    | (go_at_call 9; (try rw [hw3]); (with_reducible refine (HP.out _ (HT.out.below B3.out)).mono ?_); rintro r4 w4 ⟨A4, c4, rfl, g1, g2, g3, b4⟩; have G3 := Lib.hid g3.reads; have X4 := Lib.hid (X3.out.below b4 X3.out.lt); have Y4 := Lib.hid (Y3.out.below b4 Y3.out.lt); have B4 := Lib.hid (below_step B3.out b4); clear b4 g3)
    | (go_at_call 30; (with_reducible refine (beq_any A4 A 128 c4 n c pg b w4 _ HV.out HPL.out.symm HA.out.len G3.out (HA.out.below B4.out).reads).mono ?_); rintro r5 w5 ⟨rfl, rfl⟩; have y5 := X4.out; have f50 := y5.free 0; have f51 := y5.free 1; have f52 := y5.free 2; have f53 := y5.free 3; have f54 := y5.free 4; have c50 := y5.cell 0; have c51 := y5.cell 1; have c52 := y5.cell 2; have c53 := y5.cell 3; have c54 := y5.cell 4; have z5 := Y4.out; have e50 := z5.cell 0; have e51 := z5.cell 1; have e52 := z5.cell 2; have e53 := z5.cell 3; have e54 := z5.cell 4; clear y5 z5))
  have XE := X4.out.setM (.int .i64 label) (.int .u64 (txn : Int)) (.int .i64 root) (.int .i64 list) (.int .i64 high)
  have q0 := XE.cell 0
  have q1 := XE.cell 1
  have q2 := XE.cell 2
  have q3 := XE.cell 3
  have q4 := XE.cell 4
  unfold stM5 at q0 q1 q2 q3 q4
  refine ⟨rfl, .tuple #[.agg #[.int .i64 label, .int .u64 (txn : Int), .int .i64 root, .int .i64 list, .int .i64 high], .int .i64 0], ?_, rfl, below_setM B4.out (Nat.le_refl _) (.int .i64 label) (.int .u64 (txn : Int)) (.int .i64 root) (.int .i64 list) (.int .i64 high)⟩
  simp at q0 q1 q2 q3 q4
  simp [results, Tryd.f16, go_sem, q0, q1, q2, q3, q4]
theorem mGet_any (A : Option Addr) (n c : Nat) (b : List UInt8) (w : World) (ht : Tab w) (h : Arg w A n c b) : Calls Tryd.prog 16 #[.slice A n c] w (GetM10 (getM b) w) := by
  by_cases he : (unpN b).2.2 = 0
  · by_cases hl : (unpN b).2.1.length = 1
    · obtain ⟨cb, hcb⟩ := List.length_eq_one_iff.1 hl
      have hu : unpN b = ((unpN b).1, [cb], 0) := by rw [← hcb, ← he]
      rw [getM_one hu]
      by_cases hc : checkM (readM cb)
      · by_cases hv : cPage 5 [cellM (readM cb)] = b
        · rw [if_pos ⟨hc, hv⟩]
          exact mGet_yes A n c b _ cb w ht h hu hc hv
        · rw [if_neg (fun hh : ansM b (readM cb) => hv hh.2)]
          exact mGet_not A n c b _ cb w ht h hu hc hv
      · rw [if_neg (fun hh : ansM b (readM cb) => hc hh.1)]
        exact mGet_no A n c b _ cb w ht h hu hc
    · rw [getM_len he hl]
      exact mGet_len A n c b w ht h he hl
  · rw [getM_er he]
    exact mGet_er A n c b w ht h he
end Go.Proofs.YtpikcodnonodlaaDoor
end

section
namespace Go.Proofs.YtpikcodnonodlaaDoor
open Go.RowKit
set_option linter.unusedVariables false

theorem ext_take (l : List UInt8) (n : Nat) : (⟨l.toArray⟩ : ByteArray).extract 0 n = ⟨(l.take n).toArray⟩ := by
  apply ByteArray.ext
  simp [ByteArray.data_extract]
theorem ext_drop (l : List UInt8) (n : Nat) : (⟨l.toArray⟩ : ByteArray).extract n l.length = ⟨(l.drop n).toArray⟩ := by
  apply ByteArray.ext
  simp [ByteArray.data_extract]
  exact List.take_of_length_le (by simp)

def RT (w : World) (Q : Nat) (l : List UInt8) (er : Int) : Prop := Has w Q 70 #[.string ⟨l.toArray⟩, .int .i64 er]
def RStrEnd (Q : Nat) (w : World) (s l : List UInt8) (er : Int) (e : Ending) (w' : World) : Prop := e = .returned (.string ⟨s.toArray⟩) ∧ RT w' Q l er ∧ w.grownBy w' (some Q)
def RNumEnd (Q : Nat) (w : World) (x : Nat) (l : List UInt8) (er : Int) (e : Ending) (w' : World) : Prop := e = .returned (.int .u64 (x : Int)) ∧ RT w' Q l er ∧ w.grownBy w' (some Q)

theorem RT.fail {w : World} {Q : Nat} {l : List UInt8} {er : Int} (h : RT w Q l er) (er' : Int) : RT (w.setCell ⟨Q, 1, none⟩ (.int .i64 er')) Q l er' := by
  have := Has.store h 1 (.int .i64 er')
  simpa [RT] using this
theorem RT.cut {w : World} {Q : Nat} {l : List UInt8} {er : Int} (h : RT w Q l er) (l' : List UInt8) : RT (w.setCell ⟨Q, 0, none⟩ (.string ⟨l'.toArray⟩)) Q l' er := by
  have := Has.store h 0 (.string ⟨l'.toArray⟩)
  simpa [RT] using this

set_option maxRecDepth 100000 in
theorem rsome_any (Q : Nat) (l : List UInt8) (er : Int) (n : Nat) (w : World) (h : RT w Q l er) (hl : l.length ≤ 1000000) :
    Calls Tryd.prog 53 #[.pointer (some ⟨Q, 0, none⟩), .int .i64 n] w (RStrEnd Q w (stS l er n).1 (stS l er n).2.1 (stS l er n).2.2) := by
  have c0 := Has.cell0 h
  have c1 := Has.cell1 h
  have f0 := Has.free h 0
  have f1 := Has.free h 1
  have HT := Lib.hid h
  clear h
  by_cases h0 : er = 0
  · subst h0
    by_cases hn : l.length < n
    · simp only [stS, ne_eq, not_true, if_false, if_pos hn]
      have d1 : decide (l.length < n) = true := by simp; omega
      go_enter Tryd.func53, Tryd.ntmps53
      go_wp2
      go_ret
      exact ⟨rfl, HT.out.fail 10, only_store (only_refl w Q) 1 _⟩
    · simp only [stS, ne_eq, not_true, if_false, if_neg hn]
      have d1 : decide (l.length < n) = false := by simp; omega
      go_enter Tryd.func53, Tryd.ntmps53
      go_wp2
      go_ret
      refine ⟨ret_str (ext_take l n), ?_, only_store (only_refl w Q) 0 _⟩
      rw [ext_drop]
      exact HT.out.cut (l.drop n)
  · simp only [stS, ne_eq, h0, not_false_eq_true, if_true]
    have q1 : (er == 0) = false := by simpa using h0
    have q2 : (er != 0) = true := by simpa using h0
    clear h0
    go_enter Tryd.func53, Tryd.ntmps53
    go_wp2
    go_ret
    exact ⟨rfl, HT.out, only_refl w Q⟩

theorem numOf_eq (l : List UInt8) (k : Nat) (c : UInt8) (h : l[k]? = some c) : numOf (l.take (k + 1)) = numOf (l.take k) * 256 + c.toNat := by rw [take_more h, numOf_snoc]

set_option maxRecDepth 100000 in
set_option maxHeartbeats 1000000 in
theorem rtNum_any (Q : Nat) (l : List UInt8) (er size : Int) (w : World) (h : RT w Q l er) (hl : l.length ≤ 1000000) :
    Calls Tryd.prog 32 #[.pointer (some ⟨Q, 0, none⟩), .int .i64 size] w (RNumEnd Q w (stN l er size).1 (stN l er size).2.1 (stN l er size).2.2) := by
  have c0 := Has.cell0 h
  have c1 := Has.cell1 h
  have f1 := Has.free h 1
  have HT := Lib.hid h
  clear h
  by_cases h0 : er = 0
  · subst h0
    by_cases hs : size < 1 ∨ 8 < size
    · simp only [stN, ne_eq, not_true, if_false, if_pos hs]
      rcases hs with hs | hs
      · go_enter Tryd.func32, Tryd.ntmps32
        go_wp2
        go_ret
        exact ⟨rfl, HT.out.fail 1, only_store (only_refl w Q) 1 _⟩
      · have hs1 : 1 ≤ size := by omega
        go_enter Tryd.func32, Tryd.ntmps32
        go_wp2
        go_ret
        exact ⟨rfl, HT.out.fail 1, only_store (only_refl w Q) 1 _⟩
    · have hs1 : 1 ≤ size := by omega
      have hs8 : size ≤ 8 := by omega
      have hr : stN l 0 size = (numOf (stS l 0 size.toNat).1, (stS l 0 size.toNat).2.1, (stS l 0 size.toNat).2.2) := by
        by_cases hlt : (l.length : Int) < size
        · have hlt2 : l.length < size.toNat := by omega
          simp only [stN, stS, ne_eq, not_true, if_false, if_neg hs, if_pos hlt, if_pos hlt2]
          rfl
        · have hlt2 : ¬ l.length < size.toNat := by omega
          simp only [stN, stS, ne_eq, not_true, if_false, if_neg hs, if_neg hlt, if_neg hlt2]
      rw [hr]
      obtain ⟨n, rfl⟩ : ∃ n : Nat, size = (n : Int) := ⟨size.toNat, by omega⟩
      clear hr hs
      rw [Int.toNat_natCast]
      have ht : (stS l 0 n).1.length ≤ 8 := by
        unfold stS
        rw [if_neg (by simp)]
        split
        · simp
        · simp; omega
      have HK := Lib.hid (rsome_any Q l 0 n w HT.out hl)
      obtain ⟨t, l1, er1, hst⟩ : ∃ t l1 er1, stS l 0 n = (t, l1, er1) := ⟨_, _, _, rfl⟩
      rw [hst] at HK ht ⊢
      simp only at HK ht ⊢
      clear hst
      go_enter Tryd.func32, Tryd.ntmps32
      go_wp2_with (go_at_call 53; refine HK.out.mono ?_; rintro e w1 ⟨rfl, h1, h2⟩; have R1 := Lib.hid h1; have G1 := Lib.hid h2; clear h1 h2)
      go_loop [6, 7] (fun x i => ∃ k : Nat, k ≤ t.length ∧ i = .int .i64 k ∧ x = .int .u64 (numOf (t.take k) : Int)) (fun _ i => t.length - (intOf i).toNat)
      case atStart => exact ⟨0, Nat.zero_le _, rfl, rfl⟩
      case round =>
        obtain ⟨k, hk, rfl, rfl⟩ := hrel
        by_cases hlt : k < t.length
        · obtain ⟨d, hd⟩ : ∃ d, t[k]? = some d := ⟨_, List.getElem?_eq_getElem hlt⟩
          have hb := numOf_take_lt t k 7 (by omega)
          have HN := Lib.hid (numOf_eq t k d hd)
          have hd2 := d.toNat_lt
          have htk : t[k] = d := by rw [List.getElem?_eq_getElem hlt] at hd; injection hd
          have HD := Lib.hid hd
          clear hd
          generalize numOf (t.take k) = x at hb HN
          have HK2 := Lib.hid htk
          clear htk
          go_wp2
          go_round
          case rel =>
            refine ⟨k + 1, by omega, by go_num, u64_eq ?_⟩
            have e : (⟨t.toArray⟩ : ByteArray)[k] = d := HK2.out
            rw [e, IntWalk.u64_in (d.toNat : Int) (by omega), IntWalk.u64_in _ (by omega), HN.out]
            omega
          case measure => simp [intOf]; omega
        · go_wp2
          go_ret
          exact ⟨ret_u64 (by rw [List.take_of_length_le (by omega)]), R1.out, G1.out⟩
  · simp only [stN, ne_eq, h0, not_false_eq_true, if_true]
    have q1 : (er == 0) = false := by simpa using h0
    have q2 : (er != 0) = true := by simpa using h0
    clear h0
    go_enter Tryd.func32, Tryd.ntmps32
    go_wp2
    go_ret
    exact ⟨rfl, HT.out, only_refl w Q⟩

theorem stN_len (l : List UInt8) (er size : Int) : (stN l er size).2.1.length ≤ l.length := by
  unfold stN
  split
  · simp
  · split
    · simp
    · split <;> simp


end Go.Proofs.YtpikcodnonodlaaDoor
end
