import Derived.Test.YtnponjdnjkegmaaDoorJ08
/- Of a claim's texts, joined: Ced Cef. No statement but in the last. -/
section
namespace Go.Proofs.YtnponjdnjkegmaaDoor
open Go.RowKit
set_option linter.unusedVariables false

theorem str_byte (r : Nat) (hr : r ≤ 255) (W : World) : (convert 31 9 (.slice (some ⟨W.heap.size, 0, none⟩) 1 1)).run Tryd.prog (W.alloc (.cells #[.int .u8 (r : Int)] 5)) = .ok (.string ⟨[UInt8.ofNat r].toArray⟩) (W.alloc (.cells #[.int .u8 (r : Int)] 5)) := by
  have h := row_made W [UInt8.ofNat r]
  have e : (([UInt8.ofNat r] : List UInt8).map byteV).toArray = #[.int .u8 (r : Int)] := by simp [byteV]; omega
  rw [e] at h
  exact str_row (n := 1) (c := 1) rfl h
theorem str_byte2 (x y : Nat) (hx : x ≤ 255) (hy : y ≤ 255) (W : World) : (convert 31 9 (.slice (some ⟨W.heap.size, 0, none⟩) 2 2)).run Tryd.prog (W.alloc (.cells #[.int .u8 (x : Int), .int .u8 (y : Int)] 5)) = .ok (.string ⟨[UInt8.ofNat x, UInt8.ofNat y].toArray⟩) (W.alloc (.cells #[.int .u8 (x : Int), .int .u8 (y : Int)] 5)) := by
  have h := row_made W [UInt8.ofNat x, UInt8.ofNat y]
  have e : (([UInt8.ofNat x, UInt8.ofNat y] : List UInt8).map byteV).toArray = #[.int .u8 (x : Int), .int .u8 (y : Int)] := by simp [byteV]; omega
  rw [e] at h
  exact str_row (n := 2) (c := 2) rfl h
theorem made_zero (n : Nat) : madeCells #[.int .u8 0] n = ((List.replicate n (0 : UInt8)).map byteV).toArray := by
  apply Array.ext_getElem?
  intro i
  by_cases h : i < n
  · have h1 : (madeCells #[.int .u8 0] n)[i]? = some (.int .u8 0) := by
      have : i % 1 = 0 := Nat.mod_one i
      simp [madeCells, h, this]
    have h2 : ((List.replicate n (0 : UInt8)).map byteV).toArray[i]? = some (.int .u8 0) := by simp [h, byteV]
    rw [h1, h2]
  · rw [Array.getElem?_eq_none (by rw [size_madeCells]; omega), Array.getElem?_eq_none (by simp; omega)]
theorem str_zero (n : Nat) (W : World) : (convert 31 9 (.slice (some ⟨W.heap.size, 0, none⟩) n n)).run Tryd.prog (W.alloc (.cells (madeCells #[.int .u8 0] n) 5)) = .ok (.string ⟨(List.replicate n (0 : UInt8)).toArray⟩) (W.alloc (.cells (madeCells #[.int .u8 0] n) 5)) := by
  rw [made_zero]
  exact str_row (n := n) (c := n) (by simp) (row_made W (List.replicate n 0))

def RPackEnd (s : List UInt8) (er : Int) (w : World) (e : Ending) (w' : World) : Prop := e = .returned (.tuple #[.string ⟨s.toArray⟩, .int .i64 er]) ∧ Below w.heap.size w w'
theorem r7Pack_no (kind : UInt8) (A : Option Addr) (n c : Nat) (l : List (List UInt8)) (w : World) (h : TxtA w A n l) (hs : cSz l ≤ 1001000) (hn : ¬ cFits kind l) :
    Calls Tryd.prog 19 #[.int .u8 (kind.toNat : Int), .slice A n c] w (RPackEnd [] 1 w) := by
  have HS := Lib.hid (r7Size_any A n c l w h hs)
  by_cases hk : kind = 0
  · subst hk
    go_enter Tryd.func19, Tryd.ntmps19
    go_wp2
    go_ret2
    exact ⟨rfl, Below.refl _ _⟩
  · have hk0 : ((kind.toNat : Int) == 0) = false := beq_false_of_ne (fun e => hk (UInt8.toNat_inj.1 (by simpa using e)))
    have hz : 122 < cSz l := by
      unfold cFits at hn
      have : ¬ cSz l ≤ 122 := fun e => hn ⟨hk, e⟩
      omega
    clear hn h hs
    have e2 : decide (122 < (cSz l : Int)) = true := by simp; omega
    go_enter Tryd.func19, Tryd.ntmps19
    go_wp2_with (go_at_call 31; refine HS.out.mono ?_; rintro e w1 ⟨rfl, rfl⟩)
    go_ret2
    exact ⟨rfl, Below.refl _ _⟩

set_option maxRecDepth 100000 in
set_option maxHeartbeats 4000000 in
theorem r7Pack_yes (kind : UInt8) (A : Option Addr) (n c : Nat) (l : List (List UInt8)) (w : World) (h : TxtA w A n l) (hy : cFits kind l) :
    Calls Tryd.prog 19 #[.int .u8 (kind.toNat : Int), .slice A n c] w (RPackEnd (cPage kind l) 0 w) := by
  have HS := Lib.hid (r7Size_any A n c l w h (by have := hy.2; omega))
  have HA := Lib.hid h
  have HL := Lib.hid h.len
  have hk0 : ((kind.toNat : Int) == 0) = false := beq_false_of_ne (fun e => hy.1 (UInt8.toNat_inj.1 (by simpa using e)))
  have hz := hy.2
  have hn : n ≤ 122 := by have := cSz_len l; have := h.len; omega
  have hkl := kind.toNat_lt
  have e2 : decide (122 < (cSz l : Int)) = false := by simp; omega
  clear h hy
  go_enter Tryd.func19, Tryd.ntmps19
  go_wp2_with (go_at_call 31; refine HS.out.mono ?_; rintro e w1 ⟨rfl, rfl⟩)
  go_loopw [6, 7, 8] (fun s b i wr => ∃ k : Nat, k ≤ n ∧ i = .int .i64 k ∧ s = .string ⟨(cSlots 128 (l.take k)).toArray⟩ ∧ b = .string ⟨(cBack (l.take k)).toArray⟩ ∧ Below w.heap.size w wr) (fun _ _ i _ => n - (intOf i).toNat)
  case atStart => exact ⟨0, Nat.zero_le _, rfl, rfl, rfl, Below.refl _ _⟩
  case round =>
    obtain ⟨k, hk, rfl, rfl, rfl, hB⟩ := hrel
    have HB := Lib.hid hB
    by_cases hlt : k < n
    · have hkl2 : k < l.length := by rw [← HL.out]; exact hlt
      obtain ⟨g, off, rfl, hc⟩ := (HA.out.below hB).at hkl2
      have hm := cSz_more (List.getElem?_eq_getElem hkl2)
      have hme := cSz_take l (k + 1)
      have hbl := cBack_len (l.take k)
      have hta := List.take_succ_eq_append_getElem hkl2
      generalize l[k] = y at *
      have n1 : cSlots 128 (l.take (k + 1)) = cSlots 128 (l.take k) ++ [UInt8.ofNat (128 - (cBack (l.take k)).length - y.length)] := by rw [hta, cSlots_snoc]
      have n2 : cBack (l.take (k + 1)) = y ++ cBack (l.take k) := by rw [hta, cBack_snoc]
      have N1 := Lib.hid n1
      have N2 := Lib.hid n2
      have hs0 : (cSlots 128 (l.take k)).length ≤ 122 := by rw [cSlots_len, List.length_take]; omega
      have hb0 : (cBack (l.take k)).length + y.length ≤ 122 := by omega
      clear hB n1 n2 hta hbl hme hm hkl2
      obtain ⟨S, hS⟩ : ∃ S, cSlots 128 (l.take k) = S := ⟨_, rfl⟩
      obtain ⟨B, hBk⟩ : ∃ B, cBack (l.take k) = B := ⟨_, rfl⟩
      rw [hS] at hs0 N1 ⊢
      rw [hBk] at hb0 N1 N2 ⊢
      clear hS hBk
      have hyb : ((⟨y.toArray⟩ : ByteArray) ++ ⟨B.toArray⟩) = ⟨(y ++ B).toArray⟩ := str_app y ⟨B.toArray⟩
      have hzl : ((⟨(y ++ B).toArray⟩ : ByteArray)).size = y.length + B.length := by rw [size_list, List.length_append]
      obtain ⟨r, hr⟩ : ∃ r, 128 - B.length - y.length = r := ⟨_, rfl⟩
      have hpr : (128 : Int) - ((y.length : Int) + (B.length : Int)) = (r : Int) := by omega
      have hr1 : r ≤ 255 := by omega
      have hsb := str_byte r hr1
      have hss : ((⟨S.toArray⟩ : ByteArray) ++ ⟨[UInt8.ofNat r].toArray⟩) = ⟨(S ++ [UInt8.ofNat r]).toArray⟩ := str_app S ⟨[UInt8.ofNat r].toArray⟩
      rw [hr] at N1
      clear hr
      have hyl : y.length ≤ 122 := by omega
      have hBl : B.length ≤ 122 := by omega
      go_wp2
      go_roundw
      case rel => exact ⟨k + 1, by omega, by go_num, str_eq2 (by rw [N1.out]), str_eq2 (by rw [N2.out]), HB.out.alloc HB.out.size _⟩
      case measure => simp [intOf]; omega
    · obtain rfl : k = n := by omega
      have htk : l.take k = l := List.take_of_length_le (by rw [← HL.out]; exact Nat.le_refl _)
      rw [htk]
      have HBD : Hid (cPage kind l = tagB ([kind, UInt8.ofNat k] ++ cSlots 128 l ++ (List.replicate (122 - cSz l) 0 ++ cBack l))) := Lib.hid (by
        unfold cPage cBody
        rw [← HL.out]
        simp)
      have hbl := cBack_len l
      have hsl := cSlots_len l 128
      have HKL : Hid (l.length = k) := Lib.hid HL.out.symm
      obtain ⟨S, hS⟩ : ∃ S, cSlots 128 l = S := ⟨_, rfl⟩
      obtain ⟨B, hBk⟩ : ∃ B, cBack l = B := ⟨_, rfl⟩
      rw [hS, hBk] at HBD
      rw [hS] at hsl ⊢
      rw [hBk] at hbl ⊢
      rw [← HL.out] at hsl hbl
      clear hS hBk htk
      obtain ⟨wo, hwo⟩ : ∃ wo : World, wo = wr := ⟨_, rfl⟩
      subst hwo
      have hs2 := fun W => str_byte2 kind.toNat k (by omega) (by omega) W
      rw [UInt8.ofNat_toNat] at hs2
      have hss : ((⟨[kind, UInt8.ofNat k].toArray⟩ : ByteArray) ++ ⟨S.toArray⟩) = ⟨([kind, UInt8.ofNat k] ++ S).toArray⟩ := str_app _ ⟨S.toArray⟩
      obtain ⟨m, hm⟩ : ∃ m, 122 - cSz l = m := ⟨_, rfl⟩
      have hme : (124 : Int) - ((k : Int) + 1 + 1) - (B.length : Int) = (m : Int) := by omega
      have hml : m ≤ 122 := by omega
      have hmk := fun W => make_bytes m (by omega) W
      have hst := str_zero m
      have hzl : (List.replicate m (0 : UInt8)).length ≤ 122 := by rw [List.length_replicate]; exact hml
      rw [hm] at HBD
      clear hm
      obtain ⟨Z, hZ⟩ : ∃ Z, List.replicate m (0 : UInt8) = Z := ⟨_, rfl⟩
      rw [hZ] at HBD hst hzl
      clear hZ
      have hst1 := hst (wo.alloc (.cells #[.int .u8 (kind.toNat : Int), .int .u8 (k : Int)] 5))
      have e9 : (wo.alloc (.cells #[.int .u8 (kind.toNat : Int), .int .u8 (k : Int)] 5)).heap.size = wo.heap.size + 1 := by simp
      rw [e9] at hst1
      clear e9 hst
      obtain ⟨T, hT⟩ : ∃ T, [kind, UInt8.ofNat k] ++ S ++ (Z ++ B) = T := ⟨_, rfl⟩
      have hX : (⟨(kind :: UInt8.ofNat k :: S).toArray⟩ : ByteArray) ++ (⟨Z.toArray⟩ ++ ⟨B.toArray⟩) = ⟨T.toArray⟩ := by
        rw [← hT]
        apply ByteArray.ext
        simp
      have hTl : T.length ≤ 1000 := by
        rw [← hT]
        simp only [List.length_append, List.length_cons, List.length_nil]
        omega
      rw [hT] at HBD
      have hSZ : (⟨T.toArray⟩ : ByteArray).size ≤ 1000000 := by rw [size_list]; omega
      have hol := ofN_lt T
      have HOF := Lib.hid (fun W => r2Of_any ⟨T.toArray⟩ W hSZ)
      have HNM := Lib.hid (fun W => rNum_yes (ofN T) 4 W (by omega) (by omega) (by omega))
      have hnl : (numB (ofN T) 4).length ≤ 4 := by rw [numB_len]; omega
      have HTG : Hid (tagB T = numB (ofN T) 4 ++ T) := Lib.hid rfl
      clear hT hSZ
      generalize ofN T = f at *
      generalize numB f 4 = NB at *
      go_wp2_with (first
        | (go_at_call 32; refine (HOF.out _).mono ?_; rintro e w1 ⟨rfl, rfl⟩)
        | (go_at_call 28; refine (HNM.out _).mono ?_; rintro e w2 ⟨rfl, h2⟩; have B2 := Lib.hid h2; clear h2))
      go_ret2
      refine ⟨by rw [HBD.out, HTG.out]; first | rfl | simp, ?_⟩
      exact below_step ((HB.out.alloc HB.out.size _).alloc (by have := HB.out.size; simp; omega) _) B2.out

end Go.Proofs.YtnponjdnjkegmaaDoor
end

section
namespace Go.Proofs.YtnponjdnjkegmaaDoor
open Go.RowKit
set_option linter.unusedVariables false

def RUnpEnd (r : UInt8 × List (List UInt8) × Int) (w : World) (e : Ending) (w' : World) : Prop :=
  ∃ A n c, e = .returned (.tuple #[.int .u8 (r.1.toNat : Int), .slice A n c, .int .i64 r.2.2]) ∧ TxtA w' A n r.2.1 ∧ Below w.heap.size w w'
theorem RUnpEnd.no {w w' : World} {er : Int} (h : Below w.heap.size w w') : RUnpEnd (0, [], er) w (.returned (.tuple #[.int .u8 0, .slice none 0 0, .int .i64 er])) w' := ⟨none, 0, 0, rfl, ⟨rfl, Reads.empty⟩, h⟩
theorem r7Unpack_len (s : ByteArray) (w : World) (hs : s.size ≤ 1000000) (hl : s.size ≠ 128) :
    Calls Tryd.prog 37 #[.string s] w (RUnpEnd (unpN s.data.toList) w) := by
  have hu : unpN s.data.toList = (0, [], 1) := by unfold unpN; rw [if_pos (show s.data.toList.length ≠ 128 from hl)]
  have hne : ((s.size : Int) != 128) = true := by simp; omega
  rw [hu]
  go_enter Tryd.func37, Tryd.ntmps37
  go_wp2
  go_ret3
  exact RUnpEnd.no (Below.refl _ _)
theorem ext_cut (s : ByteArray) (a e : Nat) : s.extract a e = ⟨((s.data.toList.drop a).take (e - a)).toArray⟩ := by
  apply ByteArray.ext
  apply Array.ext'
  simp only [ByteArray.data_extract, Array.toList_extract, List.extract_eq_take_drop]
theorem isTag_four (b : List UInt8) (h : 4 ≤ b.length) : isTag b ↔ numB (ofN (b.drop 4)) 4 = b.take 4 := by
  constructor
  · intro ht
    have := congrArg (List.take 4) ht.2
    unfold tagB at this
    rwa [List.take_append_of_le_length (by rw [numB_len]; omega), List.take_of_length_le (by rw [numB_len]; omega)] at this
  · intro he
    refine ⟨h, ?_⟩
    unfold tagB
    rw [he, List.take_append_drop]

set_option maxRecDepth 100000 in
set_option maxHeartbeats 4000000 in
theorem r7Unpack_sum (s : ByteArray) (w : World) (hl : s.size = 128) (hg : ¬ isTag s.data.toList) :
    Calls Tryd.prog 37 #[.string s] w (RUnpEnd (unpN s.data.toList) w) := by
  have hmx : Tryd.prog.follows .mixedOrders = true := by kernel_rfl
  have hln : s.data.toList.length = 128 := hl
  have hu : unpN s.data.toList = (0, [], 12) := by unfold unpN; rw [if_neg (by simpa using hln), if_pos hg]
  rw [hu]
  obtain ⟨T4, hT4⟩ : ∃ T, s.data.toList.take 4 = T := ⟨_, rfl⟩
  obtain ⟨T5, hT5⟩ : ∃ T, s.data.toList.drop 4 = T := ⟨_, rfl⟩
  have he0 : s.extract 0 4 = ⟨T4.toArray⟩ := by rw [ext_cut, ← hT4]; rfl
  have he4 : s.extract 4 128 = ⟨T5.toArray⟩ := by rw [ext_cut, ← hT5, List.take_of_length_le (by rw [List.length_drop]; omega)]
  have hT5l : T5.length ≤ 1000 := by rw [← hT5, List.length_drop]; omega
  rw [isTag_four _ (by omega), hT4, hT5] at hg
  have HOF := Lib.hid (fun W => r2Of_any ⟨T5.toArray⟩ W (by rw [size_list]; omega))
  have hfl := ofN_lt T5
  have HNM := Lib.hid (fun W => rNum_yes (ofN T5) 4 W (by omega) (by omega) (by omega))
  obtain ⟨f, hf⟩ : ∃ f, ofN T5 = f := ⟨_, rfl⟩
  simp only [hf] at HOF HNM hg hfl
  obtain ⟨NB, hNB⟩ : ∃ NB, numB f 4 = NB := ⟨_, rfl⟩
  simp only [hNB] at HNM hg
  have hwf : IntKind.u64.wrap (f : Int) = (f : Int) := IntWalk.u64_in _ (by omega)
  have hq : (NB == T4) = false := by simpa using hg
  clear hg hT4 hT5 hNB hf
  go_enter Tryd.func37, Tryd.ntmps37
  go_wp2
  rename_i K hK
  refine wp_held (fun w' : World => True) K hmx ?_ (fun _ _ h => h)
  refine wpAnyH_take (i := 0) (v := .string s) rfl (by kernel_rfl) (by kernel_rfl) (by kernel_rfl) (fun _ _ _ h => h) (Or.inl ⟨by rfl, ?_⟩) trivial ?_
  · rintro w6 s1
    go_simp
  simp only [Act.put, List.setIfInBounds_toArray, List.set_cons_zero, List.set_cons_succ, List.getElem_toArray, List.getElem_cons_zero]
  refine wpAnyH_take (i := 1) (v := .string ⟨T5.toArray⟩) rfl (by kernel_rfl) (by kernel_rfl) (by kernel_rfl) (fun _ _ _ h => h) (Or.inl ⟨by rfl, ?_⟩) trivial ?_
  · rintro w6 s1
    go_simp
  simp only [Act.put, List.setIfInBounds_toArray, List.set_cons_zero, List.set_cons_succ, List.getElem_toArray, List.getElem_cons_zero, List.getElem_cons_succ]
  refine wpAnyH_take (i := 5) (v := .string s) rfl (by kernel_rfl) (by kernel_rfl) (by kernel_rfl) (fun _ _ _ h => h) (Or.inl ⟨by rfl, ?_⟩) trivial ?_
  · rintro w6 s1
    go_simp
  simp only [Act.put, List.setIfInBounds_toArray, List.set_cons_zero, List.set_cons_succ, List.getElem_toArray, List.getElem_cons_zero, List.getElem_cons_succ]
  refine wpAnyH_take (i := 6) (v := .string ⟨T4.toArray⟩) rfl (by kernel_rfl) (by kernel_rfl) (by kernel_rfl) (fun _ _ _ h => h) (Or.inl ⟨by rfl, ?_⟩) trivial ?_
  · rintro w6 s1
    go_simp
  simp only [Act.put, List.setIfInBounds_toArray, List.set_cons_zero, List.set_cons_succ, List.getElem_toArray, List.getElem_cons_zero, List.getElem_cons_succ]
  refine wpAnyH_ready (rs := [2]) (by kernel_rfl) (by simp) ?_
  refine AllReadyH.cons rfl (fun K5 hK5 => ?_) AllReadyH.nil
  go_simp
  go_at_call 32
  refine (HOF.out _).mono ?_
  rintro e w1 ⟨rfl, rfl⟩
  refine hK5.out _ _ trivial (fun _ => ?_)
  clear hK5 K5
  refine wpAnyH_take (i := 3) (v := .int .u64 (f : Int)) rfl (by kernel_rfl) (by kernel_rfl) (by kernel_rfl) (fun _ _ _ h => h) (Or.inl ⟨by rfl, ?_⟩) trivial ?_
  · rintro w6 s1
    go_simp
  simp only [Act.put, List.setIfInBounds_toArray, List.set_cons_zero, List.set_cons_succ, List.getElem_toArray, List.getElem_cons_zero, List.getElem_cons_succ]
  refine wpAnyH_ready (rs := [4]) (by kernel_rfl) (by simp) ?_
  refine AllReadyH.cons rfl (fun K5 hK5 => ?_) AllReadyH.nil
  go_simp
  go_at_call 28
  refine (HNM.out _).mono ?_
  rintro e w2 ⟨rfl, k2⟩
  refine hK5.out _ _ trivial (fun _ => ?_)
  clear hK5 K5
  refine wpAnyH_take (i := 7) (v := .bool true) rfl (by kernel_rfl) (by kernel_rfl) (by kernel_rfl) (fun _ _ _ h => h) (Or.inl ⟨by rfl, ?_⟩) trivial ?_
  · rintro w6 s1
    go_simp
  simp only [Act.put, List.setIfInBounds_toArray, List.set_cons_zero, List.set_cons_succ, List.getElem_toArray, List.getElem_cons_zero, List.getElem_cons_succ]
  refine wpAnyH_done (by kernel_rfl) ?_ _
  refine hK _ _ ?_
  go_wp2
  go_ret3
  exact RUnpEnd.no (by have := k2; exact below_step (Below.refl _ w).drew k2)

theorem idx_str (s : ByteArray) (i : Nat) (x : UInt8) (h : s.data.toList[i]? = some x) : ∃ hi : i < s.size, (s[i]'hi).toNat = x.toNat := by
  obtain ⟨h1, h2⟩ := List.getElem?_eq_some_iff.1 h
  exact ⟨h1, congrArg UInt8.toNat h2⟩
def RUnpSt (w : World) (b : List UInt8) (k : Nat) (v e : Value) (wr : World) : Prop :=
  ∃ (end_ : Nat) (done : List (List UInt8)), e = .int .i64 end_ ∧ end_ ≤ 128 ∧ done.length = k ∧ done ++ cCut b ((cSlotsOf b).drop k) end_ = cCells b ∧ wr.ownsRow w.heap.size 9 1 v k (done.map cstV) ∧ Below w.heap.size w wr
theorem slots_at (b : List UInt8) (hb : b.length = 128) (k : Nat) (hk : k < cCount b) (h6 : 6 + k < 128) : ∃ x, b[6 + k]? = some x ∧ (cSlotsOf b)[k]? = some x := by
  refine ⟨_, List.getElem?_eq_getElem (by omega), ?_⟩
  unfold cSlotsOf
  rw [List.getElem?_take, if_pos hk, List.getElem?_drop, List.getElem?_eq_getElem]
theorem few_slots (b : List UInt8) (hb : b.length = 128) : (cCells b).length ≤ 122 := by
  unfold cCells
  refine Nat.le_trans (cCut_len _ _ _) ?_
  unfold cSlotsOf
  rw [List.length_take, List.length_drop, hb]
  omega
theorem cut_short (b : List UInt8) (hb : b.length = 128) : ∀ c ∈ cCells b, c.length ≤ 128 := by
  have hall : ∀ (ss : List UInt8) (e : Nat), ∀ y ∈ cCut b ss e, y.length ≤ 128 := by
    intro ss
    induction ss with
    | nil => intro e y hy; simp [cCut] at hy
    | cons s ss ih =>
      intro e y hy
      simp only [cCut] at hy
      split at hy
      · cases hy
      · rcases List.mem_cons.1 hy with rfl | hy
        · rw [List.length_take, List.length_drop]
          omega
        · exact ih _ _ hy
  exact fun c hc => hall _ _ c hc

set_option maxRecDepth 100000 in
set_option maxHeartbeats 8000000 in
theorem r7Unpack_page (s : ByteArray) (w : World) (hl : s.size = 128) (hg : isTag s.data.toList) :
    Calls Tryd.prog 37 #[.string s] w (RUnpEnd (unpN s.data.toList) w) := by
  have hmx : Tryd.prog.follows .mixedOrders = true := by kernel_rfl
  obtain ⟨j0, hj, jz0, jz1, jz2⟩ := info_parts stinfo
  have hln : s.data.toList.length = 128 := hl
  have HG := Lib.hid hg
  obtain ⟨T4, hT4⟩ : ∃ T, s.data.toList.take 4 = T := ⟨_, rfl⟩
  obtain ⟨T5, hT5⟩ : ∃ T, s.data.toList.drop 4 = T := ⟨_, rfl⟩
  have he0 : s.extract 0 4 = ⟨T4.toArray⟩ := by rw [ext_cut, ← hT4]; rfl
  have he4 : s.extract 4 128 = ⟨T5.toArray⟩ := by rw [ext_cut, ← hT5, List.take_of_length_le (by rw [List.length_drop]; omega)]
  have hT5l : T5.length ≤ 1000 := by rw [← hT5, List.length_drop]; omega
  rw [isTag_four _ (by omega), hT4, hT5] at hg
  have HOF := Lib.hid (fun W => r2Of_any ⟨T5.toArray⟩ W (by rw [size_list]; omega))
  have hfl := ofN_lt T5
  have HNM := Lib.hid (fun W => rNum_yes (ofN T5) 4 W (by omega) (by omega) (by omega))
  obtain ⟨f, hf⟩ : ∃ f, ofN T5 = f := ⟨_, rfl⟩
  simp only [hf] at HOF HNM hg hfl
  obtain ⟨NB, hNB⟩ : ∃ NB, numB f 4 = NB := ⟨_, rfl⟩
  simp only [hNB] at HNM hg
  have hwf : IntKind.u64.wrap (f : Int) = (f : Int) := IntWalk.u64_in _ (by omega)
  have hq : (NB == T4) = true := by simpa using hg
  clear hg hT4 hT5 hNB hf
  obtain ⟨x, hx⟩ : ∃ x, s.data.toList[4]? = some x := ⟨_, List.getElem?_eq_getElem (by omega)⟩
  obtain ⟨y, hy⟩ : ∃ y, s.data.toList[5]? = some y := ⟨_, List.getElem?_eq_getElem (by omega)⟩
  have HX : Hid (cKind s.data.toList = x) := Lib.hid (by unfold cKind; rw [hx]; rfl)
  have HY : Hid (cCount s.data.toList = y.toNat) := Lib.hid (by unfold cCount; rw [hy]; rfl)
  obtain ⟨hi4, hx4⟩ := idx_str s 4 x hx
  obtain ⟨hi5, hy5⟩ := idx_str s 5 y hy
  have HL := Lib.hid hln
  have HIX := Lib.hid (fun i x h => idx_str s i x h)
  have HEC := Lib.hid (fun a e => ext_cut s a e)
  obtain ⟨b, hb⟩ : ∃ b, s.data.toList = b := ⟨_, rfl⟩
  rw [hb] at HX HY HL HG HIX HEC ⊢
  have HSB : Hid (s.toList = b) := Lib.hid (by rw [ByteArray.toList_eq]; exact hb)
  have HSL := Lib.hid (fun k hk h6 => slots_at b HL.out k hk h6)
  have hyl := y.toNat_lt
  have hxl := x.toNat_lt
  clear hln hx hy hb
  obtain ⟨n, hn⟩ : ∃ n, y.toNat = n := ⟨_, rfl⟩
  rw [hn] at HY hy5 hyl
  clear hn
  go_enter Tryd.func37, Tryd.ntmps37
  go_wp2
  rename_i K hK
  refine wp_held (fun w' : World => True) K hmx ?_ (fun _ _ h => h)
  refine wpAnyH_take (i := 0) (v := .string s) rfl (by kernel_rfl) (by kernel_rfl) (by kernel_rfl) (fun _ _ _ h => h) (Or.inl ⟨by rfl, ?_⟩) trivial ?_
  · rintro w6 s1
    go_simp
  simp only [Act.put, List.setIfInBounds_toArray, List.set_cons_zero, List.set_cons_succ, List.getElem_toArray, List.getElem_cons_zero]
  refine wpAnyH_take (i := 1) (v := .string ⟨T5.toArray⟩) rfl (by kernel_rfl) (by kernel_rfl) (by kernel_rfl) (fun _ _ _ h => h) (Or.inl ⟨by rfl, ?_⟩) trivial ?_
  · rintro w6 s1
    go_simp
  simp only [Act.put, List.setIfInBounds_toArray, List.set_cons_zero, List.set_cons_succ, List.getElem_toArray, List.getElem_cons_zero, List.getElem_cons_succ]
  refine wpAnyH_take (i := 5) (v := .string s) rfl (by kernel_rfl) (by kernel_rfl) (by kernel_rfl) (fun _ _ _ h => h) (Or.inl ⟨by rfl, ?_⟩) trivial ?_
  · rintro w6 s1
    go_simp
  simp only [Act.put, List.setIfInBounds_toArray, List.set_cons_zero, List.set_cons_succ, List.getElem_toArray, List.getElem_cons_zero, List.getElem_cons_succ]
  refine wpAnyH_take (i := 6) (v := .string ⟨T4.toArray⟩) rfl (by kernel_rfl) (by kernel_rfl) (by kernel_rfl) (fun _ _ _ h => h) (Or.inl ⟨by rfl, ?_⟩) trivial ?_
  · rintro w6 s1
    go_simp
  simp only [Act.put, List.setIfInBounds_toArray, List.set_cons_zero, List.set_cons_succ, List.getElem_toArray, List.getElem_cons_zero, List.getElem_cons_succ]
  refine wpAnyH_ready (rs := [2]) (by kernel_rfl) (by simp) ?_
  refine AllReadyH.cons rfl (fun K5 hK5 => ?_) AllReadyH.nil
  go_simp
  go_at_call 32
  refine (HOF.out _).mono ?_
  rintro e w1 ⟨rfl, rfl⟩
  refine hK5.out _ _ trivial (fun _ => ?_)
  clear hK5 K5
  refine wpAnyH_take (i := 3) (v := .int .u64 (f : Int)) rfl (by kernel_rfl) (by kernel_rfl) (by kernel_rfl) (fun _ _ _ h => h) (Or.inl ⟨by rfl, ?_⟩) trivial ?_
  · rintro w6 s1
    go_simp
  simp only [Act.put, List.setIfInBounds_toArray, List.set_cons_zero, List.set_cons_succ, List.getElem_toArray, List.getElem_cons_zero, List.getElem_cons_succ]
  refine wpAnyH_ready (rs := [4]) (by kernel_rfl) (by simp) ?_
  refine AllReadyH.cons rfl (fun K5 hK5 => ?_) AllReadyH.nil
  go_simp
  go_at_call 28
  refine (HNM.out _).mono ?_
  rintro e w2 ⟨rfl, k2⟩
  refine hK5.out _ _ trivial (fun _ => ?_)
  clear hK5 K5
  refine wpAnyH_take (i := 7) (v := .bool false) rfl (by kernel_rfl) (by kernel_rfl) (by kernel_rfl) (fun _ _ _ h => h) (Or.inl ⟨by rfl, ?_⟩) trivial ?_
  · rintro w6 s1
    go_simp
  simp only [Act.put, List.setIfInBounds_toArray, List.set_cons_zero, List.set_cons_succ, List.getElem_toArray, List.getElem_cons_zero, List.getElem_cons_succ]
  refine wpAnyH_done (by kernel_rfl) ?_ _
  refine hK _ _ ?_
  go_wp2
  have k2 := Lib.hid (below_step (Below.refl _ w).drew k2)
  go_loopw [6, 7, 8] (fun e v i wr => ∃ k : Nat, k ≤ n ∧ i = .int .i64 k ∧ RUnpSt w b k v e wr) (fun _ _ i _ => n - (intOf i).toNat)
  case atStart => exact ⟨0, Nat.zero_le _, rfl, 128, [], rfl, Nat.le_refl _, rfl, rfl, st_own_nil _ _, k2.out⟩
  case round =>
    obtain ⟨k, hk, rfl, hST⟩ := hrel
    have ST := Lib.hid hST
    clear hST
    by_cases hlt : k < n
    · obtain ⟨end_, done, rfl, he, hqk, hcut, hO, hB⟩ := ST.out
      have HO := Lib.hid hO
      have HB := Lib.hid hB
      have HQ := Lib.hid hqk
      have HCT := Lib.hid hcut
      clear hO hB hqk hcut
      by_cases h6 : 6 + k < 128
      · obtain ⟨sl, hs1, hs2⟩ := HSL.out k (by rw [HY.out]; exact hlt) h6
        obtain ⟨hik, hkv⟩ := HIX.out (6 + k) sl hs1
        have hsl := sl.toNat_lt
        by_cases hse : sl.toNat ≤ end_
        · have CC := Lib.hid (cCut_cons b (cSlotsOf b) k end_ sl hs2 hse)
          clear hs1 hs2
          generalize sl.toNat = t at *
          have hext := HEC.out t end_
          obtain ⟨C, hC⟩ : ∃ C, (b.drop t).take (end_ - t) = C := ⟨_, rfl⟩
          rw [hC] at CC hext
          clear hC
          have b1 : ¬ ((end_ : Int) < (t : Int)) := by omega
          obtain ⟨sz, hsz⟩ : ∃ z : ByteArray, (⟨C.toArray⟩ : ByteArray) = z := ⟨_, rfl⟩
          have HCS : Hid (cstV C = .string sz) := Lib.hid (by rw [← hsz]; rfl)
          rw [hsz] at hext
          clear hsz
          go_wp2_with (at_builtin; refine wpList_append_one rfl _ _ 38 9 rfl w.heap.size 9 j0 _ 16 Tryd.underlying38 hj jz0 jz1 jz2 rfl _ k _ rfl HO.out (.string sz) rfl rfl ?_ ?_ ?_ ?_; (omega); (unfold maxLen; omega); (exact HB.out.size); intro v4 w4 h7 h8; have O4 := Lib.hid h7; have B4 := Lib.hid (HB.out.trans h8); clear h7 h8)
          go_roundw
          case rel =>
            refine ⟨k + 1, by omega, by go_num, t, done ++ [C], rfl, by omega, by simp [HQ.out], ?_, ?_, B4.out⟩
            · have h1 := HCT.out
              rw [CC.out] at h1
              rw [List.append_assoc]
              exact h1
            · rw [List.map_append, List.map_cons, List.map_nil, HCS.out]
              exact O4.out
          case measure => simp [intOf]; omega
        · have HU : Hid (unpN b = (0, [], 11)) := Lib.hid (unpN_no HL.out HG.out (fun h => by
            have h1 := cForm_count h
            have h2 := HCT.out
            rw [cCut_stop b (cSlotsOf b) k end_ sl hs2 hse, List.append_nil] at h2
            rw [← h2, HQ.out, HY.out] at h1
            omega))
          rw [HU.out]
          clear hs1 hs2
          generalize sl.toNat = t at *
          have b1 : (end_ : Int) < (t : Int) := by omega
          obtain ⟨w3, hw3⟩ : ∃ w3 : World, w3 = wr := ⟨_, rfl⟩
          subst hw3
          go_wp2
          go_ret3
          exact RUnpEnd.no HB.out
      · have HU : Hid (unpN b = (0, [], 11)) := Lib.hid (unpN_no HL.out HG.out (fun h => by
          have h1 := cForm_count h
          have h2 := few_slots b HL.out
          rw [HY.out] at h1
          omega))
        rw [HU.out]
        have b6 : (128 : Int) ≤ 6 + (k : Int) := by omega
        obtain ⟨w3, hw3⟩ : ∃ w3 : World, w3 = wr := ⟨_, rfl⟩
        subst hw3
        go_wp2
        go_ret3
        exact RUnpEnd.no HB.out
    · obtain ⟨end_, done, rfl, he, hqk, hcut, hO, hB⟩ := ST.out
      obtain rfl : k = n := by omega
      have hnil : (cSlotsOf b).drop k = [] := List.drop_eq_nil_of_le (by unfold cSlotsOf; rw [List.length_take, HY.out]; omega)
      rw [hnil] at hcut
      have hdn : done = cCells b := by rw [← hcut]; simp [cCut]
      subst hdn
      obtain ⟨A2, c2, rfl, _, hT⟩ := TxtA.of_own hO
      have HB := Lib.hid hB
      have HT := Lib.hid hT
      clear hO hB hT hnil hcut hqk
      obtain ⟨w3, hw3⟩ : ∃ w3 : World, w3 = wr := ⟨_, rfl⟩
      subst hw3
      by_cases hy : cFits x (cCells b)
      · have HP := Lib.hid (r7Pack_yes x A2 k c2 (cCells b) w3 HT.out hy)
        have HPL := Lib.hid (cPage_len x (cCells b) hy.2)
        have hpl : (cPage x (cCells b)).length ≤ 1000 := by rw [HPL.out]; omega
        by_cases hee : cPage x (cCells b) = b
        · have HU : Hid (unpN b = (x, cCells b, 0)) := Lib.hid (by rw [unpN_yes HL.out HG.out ⟨by rw [HX.out]; exact hy, by rw [HX.out]; exact hee⟩, HX.out])
          have hqq : (cPage x (cCells b) == s.toList) = true := by rw [HSB.out, hee]; simp
          clear hy hee
          generalize cPage x (cCells b) = PG at *
          go_wp2_with (go_at_call 19; refine HP.out.mono ?_; rintro e w4 ⟨rfl, b4⟩; have B4 := Lib.hid b4; clear b4)
          go_ret3
          rw [HU.out]
          exact ⟨A2, k, c2, rfl, HT.out.below B4.out, below_step HB.out B4.out⟩
        · have HU : Hid (unpN b = (0, [], 11)) := Lib.hid (unpN_no HL.out HG.out (fun h => hee (by have := h.2; rwa [HX.out] at this)))
          have hqq : (cPage x (cCells b) == s.toList) = false := by rw [HSB.out]; simpa using hee
          clear hy hee
          generalize cPage x (cCells b) = PG at *
          go_wp2_with (go_at_call 19; refine HP.out.mono ?_; rintro e w4 ⟨rfl, b4⟩; have B4 := Lib.hid b4; clear b4)
          go_ret3
          rw [HU.out]
          exact RUnpEnd.no (below_step HB.out B4.out)
      · have HP := Lib.hid (r7Pack_no x A2 k c2 (cCells b) w3 HT.out (by
          have := cSz_few (cCells b) 122 128 (few_slots b HL.out) (fun c hc => cut_short b HL.out c hc)
          omega) hy)
        have HU : Hid (unpN b = (0, [], 11)) := Lib.hid (unpN_no HL.out HG.out (fun h => hy (by have := h.1; rwa [HX.out] at this)))
        clear hy
        go_wp2_with (go_at_call 19; refine HP.out.mono ?_; rintro e w4 ⟨rfl, b4⟩; have B4 := Lib.hid b4; clear b4)
        go_ret3
        rw [HU.out]
        exact RUnpEnd.no (below_step HB.out B4.out)

theorem r7Unpack_any (s : ByteArray) (w : World) (hs : s.size ≤ 1000000) : Calls Tryd.prog 37 #[.string s] w (RUnpEnd (unpN s.data.toList) w) := by
  by_cases hl : s.size = 128
  · by_cases hg : isTag s.data.toList
    · exact r7Unpack_page s w hl hg
    · exact r7Unpack_sum s w hl hg
  · exact r7Unpack_len s w hs hl


end Go.Proofs.YtnponjdnjkegmaaDoor
end
