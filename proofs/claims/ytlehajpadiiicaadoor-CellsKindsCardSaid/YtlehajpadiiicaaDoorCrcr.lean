/- The document's On, Of, Tag, Open of layer 2: contracts, no statement. -/
import Derived.Test.YtlehajpadiiicaaDoorRnum
import Derived.Test.YtlehajpadiiicaaDoorCrcm
namespace Go.Proofs.YtlehajpadiiicaaDoor
open Go.RowKit
set_option linter.unusedVariables false

theorem u32_eq {a b : Int} (h : a = b) : Value.int .u32 a = .int .u32 b := by rw [h]
theorem ret_u32 {a b : Int} (h : a = b) : Ending.returned (.int .u32 a) = .returned (.int .u32 b) := by rw [h]
theorem fd_more (x : Nat) (l : List UInt8) (k : Nat) (d : UInt8) (h : l[k]? = some d) : fd x (l.take (k + 1)) = bt (fd x (l.take k)) d := by rw [take_more h, fd_append]; rfl
theorem sts_more (n : Nat) (x : Nat) : sts (n + 1) x = st (sts n x) := by rw [sts_add]; rfl
theorem xor_cast (a b : Nat) (ha : a < 4294967296) (hb : b < 4294967296) : bits .xor .u32 (a : Int) (b : Int) = ((a ^^^ b : Nat) : Int) := u32_xor_nat a b ha hb

set_option maxHeartbeats 800000 in
theorem r2On_any (sum : Nat) (s : ByteArray) (w : World) (hsum : sum < 4294967296) (hs : s.size ≤ 1000000) :
    Calls Tryd.prog 28 #[.int .u32 sum, .string s] w fun e w' => e = .returned (.int .u32 (onN sum s.data.toList : Int)) ∧ w = w' := by
  have hsz : s.size = s.data.toList.length := rfl
  have HZ := Lib.hid hsz
  clear hsz
  go_enter Tryd.func28, Tryd.ntmps28
  go_wp2
  go_loop [5, 6] (fun x i => ∃ k : Nat, k ≤ s.size ∧ i = .int .i64 k ∧ x = .int .u32 (fd (4294967295 - sum) (s.data.toList.take k) : Int)) (fun _ i => s.size - (intOf i).toNat)
  case atStart => exact ⟨0, Nat.zero_le _, rfl, u32_eq (by simp [fd]; omega)⟩
  case round =>
    obtain ⟨k, hk, rfl, rfl⟩ := hrel
    by_cases hlt : k < s.size
    · obtain ⟨d, hd⟩ : ∃ d, s.data.toList[k]? = some d := ⟨_, List.getElem?_eq_getElem (by rw [← HZ.out]; exact hlt)⟩
      have hsd : Hid (s[k] = d) := Lib.hid (by
        rw [List.getElem?_eq_getElem (by rw [← HZ.out]; exact hlt)] at hd
        injection hd)
      have HM := Lib.hid (fd_more (4294967295 - sum) s.data.toList k d hd)
      have hx := fd_lt (s.data.toList.take k) (4294967295 - sum) (by omega)
      clear hd
      generalize fd (4294967295 - sum) (s.data.toList.take k) = x at hx HM
      have hdl := d.toNat_lt
      have hxc : Hid (bits .xor .u32 (x : Int) (d.toNat : Int) = ((x ^^^ d.toNat : Nat) : Int)) := Lib.hid (xor_cast x d.toNat hx (by omega))
      have hyl : x ^^^ d.toNat < 4294967296 := Nat.xor_lt_two_pow (n := 32) hx (by omega)
      have HB : Hid (bt x d = sts 8 (x ^^^ d.toNat)) := Lib.hid rfl
      go_wp2
      go_loop [5, 7] (fun v i => ∃ j : Nat, j ≤ 8 ∧ i = .int .i64 j ∧ v = .int .u32 (sts j (x ^^^ d.toNat) : Int)) (fun _ i => 8 - (intOf i).toNat)
      case atStart =>
        refine ⟨0, Nat.zero_le _, rfl, u32_eq ?_⟩
        rw [hsd.out, Int.emod_eq_of_lt (by omega) (by omega), hxc.out]
        rfl
      case round =>
        obtain ⟨j, hj, rfl, rfl⟩ := hrel
        by_cases hl8 : j < 8
        · have hz := sts_lt j _ hyl
          have HS := Lib.hid (sts_more j (x ^^^ d.toNat))
          generalize sts j (x ^^^ d.toNat) = y at hz HS
          have hy2 : y / 2 < 4294967296 := by omega
          have HX : Hid (bits .xor .u32 ((y : Int) / 2) 3988292384 = ((y / 2 ^^^ 3988292384 : Nat) : Int)) := Lib.hid (by
            have := xor_cast (y / 2) 3988292384 (by omega) (by omega)
            have e : ((y / 2 : Nat) : Int) = (y : Int) / 2 := by omega
            rw [e] at this
            exact this)
          by_cases hodd : y % 2 = 1
          · have h1 : ((y : Int) % 2 == 1) = true := by simp; omega
            have HO := Lib.hid hodd
            clear hodd
            go_wp2
            go_round
            case rel => exact ⟨j + 1, by omega, by go_num, u32_eq (by rw [HS.out, HX.out]; unfold st; rw [if_pos HO.out])⟩
            case measure => simp [intOf]; omega
          · have h1 : ((y : Int) % 2 == 1) = false := by simp; omega
            have HO := Lib.hid hodd
            clear hodd
            go_wp2
            go_round
            case rel => exact ⟨j + 1, by omega, by go_num, u32_eq (by rw [HS.out]; unfold st; rw [if_neg HO.out]; simp)⟩
            case measure => simp [intOf]; omega
        · have hj8 : j = 8 := by omega
          subst hj8
          go_wp2
          go_round
          case rel => exact ⟨k + 1, by omega, by go_num, u32_eq (by rw [HM.out, HB.out])⟩
          case measure => simp [intOf]; omega
    · go_wp2
      go_ret
      have e : s.data.toList.take k = s.data.toList := List.take_of_length_le (by rw [← HZ.out]; omega)
      have hb := fd_lt s.data.toList (4294967295 - sum) (by omega)
      rw [e]
      exact ⟨ret_u32 (by unfold onN; omega), rfl⟩

theorem r2Of_any (s : ByteArray) (w : World) (hs : s.size ≤ 1000000) :
    Calls Tryd.prog 21 #[.string s] w fun e w' => e = .returned (.int .u32 (ofN s.data.toList : Int)) ∧ w = w' := by
  go_enter Tryd.func21, Tryd.ntmps21
  go_wp2_with (go_at_call 28; refine (r2On_any 0 s _ (by decide) hs).mono ?_; rintro e w' ⟨rfl, rfl⟩)
  go_ret
  exact ⟨rfl, rfl⟩

/-- Bytes behind their sum. -/
def tagB (l : List UInt8) : List UInt8 := numB (ofN l) 4 ++ l
theorem tagB_len (l : List UInt8) : (tagB l).length = l.length + 4 := by simp [tagB, numB_len]; omega
theorem str_app (a : List UInt8) (s : ByteArray) : (⟨a.toArray⟩ : ByteArray) ++ s = ⟨(a ++ s.data.toList).toArray⟩ := by
  apply ByteArray.ext
  simp
theorem r2Tag_any (s : ByteArray) (w : World) (hs : s.size ≤ 1000000) :
    Calls Tryd.prog 18 #[.string s] w fun e w' => e = .returned (.string ⟨(tagB s.data.toList).toArray⟩) ∧ Below w.heap.size w w' := by
  have hl : (numB (ofN s.data.toList) 4).length ≤ 4 := by rw [numB_len]; omega
  have hx := onN_lt 0 s.data.toList
  have hx2 : ofN s.data.toList < 4294967296 := hx
  clear hx
  go_enter Tryd.func18, Tryd.ntmps18
  go_wp2_with (first
    | (go_at_call 21; refine (r2Of_any s _ hs).mono ?_; rintro e w' ⟨rfl, rfl⟩)
    | (go_at_call 20; refine (rNum_yes (ofN s.data.toList) 4 _ (by omega) (by omega) (by omega)).mono ?_; rintro e w1 ⟨rfl, h1⟩; have H1 := Lib.hid h1; clear h1))
  go_ret
  exact ⟨ret_str (by rw [str_app]; rfl), H1.out⟩

/-- It is a sum, and what it is the sum of. -/
def isTag (l : List UInt8) : Prop := 4 ≤ l.length ∧ tagB (l.drop 4) = l
theorem ext4 (s : ByteArray) : (s.extract 4 s.size).data.toList = s.data.toList.drop 4 := by
  simp only [ByteArray.data_extract, Array.toList_extract, List.extract_eq_take_drop]
  exact List.take_of_length_le (Nat.le_of_eq (by rw [List.length_drop]; exact rfl))
end Go.Proofs.YtlehajpadiiicaaDoor
