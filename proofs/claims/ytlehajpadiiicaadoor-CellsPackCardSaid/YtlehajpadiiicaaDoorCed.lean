/- The document's Pack of cells: contract; no statement. -/
import Derived.Test.YtlehajpadiiicaaDoorCec
namespace Go.Proofs.YtlehajpadiiicaaDoor
open Go.RowKit
set_option linter.unusedVariables false

theorem str_byte (r : Nat) (hr : r ≤ 255) (W : World) : (convert 25 9 (.slice (some ⟨W.heap.size, 0, none⟩) 1 1)).run Tryd.prog (W.alloc (.cells #[.int .u8 (r : Int)] 5)) = .ok (.string ⟨[UInt8.ofNat r].toArray⟩) (W.alloc (.cells #[.int .u8 (r : Int)] 5)) := by
  have h := row_made W [UInt8.ofNat r]
  have e : (([UInt8.ofNat r] : List UInt8).map byteV).toArray = #[.int .u8 (r : Int)] := by simp [byteV]; omega
  rw [e] at h
  exact str_row (n := 1) (c := 1) rfl h
theorem str_byte2 (x y : Nat) (hx : x ≤ 255) (hy : y ≤ 255) (W : World) : (convert 25 9 (.slice (some ⟨W.heap.size, 0, none⟩) 2 2)).run Tryd.prog (W.alloc (.cells #[.int .u8 (x : Int), .int .u8 (y : Int)] 5)) = .ok (.string ⟨[UInt8.ofNat x, UInt8.ofNat y].toArray⟩) (W.alloc (.cells #[.int .u8 (x : Int), .int .u8 (y : Int)] 5)) := by
  have h := row_made W [UInt8.ofNat x, UInt8.ofNat y]
  have e : (([UInt8.ofNat x, UInt8.ofNat y] : List UInt8).map byteV).toArray = #[.int .u8 (x : Int), .int .u8 (y : Int)] := by simp [byteV]; omega
  rw [e] at h
  exact str_row (n := 2) (c := 2) rfl h
theorem made_zero (n : Nat) : madeCells #[.int .u8 0] n = ((List.replicate n (0 : UInt8)).map byteV).toArray := by
  apply Array.ext_getElem?
  intro i
  by_cases h : i < n
  · have h1 : (madeCells #[.int .u8 0] n)[i]? = some (.int .u8 0) := by
      have : i % 1 = 0 := Nat.mod_one i
      simp [madeCells, h, this]
    have h2 : ((List.replicate n (0 : UInt8)).map byteV).toArray[i]? = some (.int .u8 0) := by simp [h, byteV]
    rw [h1, h2]
  · rw [Array.getElem?_eq_none (by rw [size_madeCells]; omega), Array.getElem?_eq_none (by simp; omega)]
theorem str_zero (n : Nat) (W : World) : (convert 25 9 (.slice (some ⟨W.heap.size, 0, none⟩) n n)).run Tryd.prog (W.alloc (.cells (madeCells #[.int .u8 0] n) 5)) = .ok (.string ⟨(List.replicate n (0 : UInt8)).toArray⟩) (W.alloc (.cells (madeCells #[.int .u8 0] n) 5)) := by
  rw [made_zero]
  exact str_row (n := n) (c := n) (by simp) (row_made W (List.replicate n 0))

def RPackEnd (s : List UInt8) (er : Int) (w : World) (e : Ending) (w' : World) : Prop := e = .returned (.tuple #[.string ⟨s.toArray⟩, .int .i64 er]) ∧ Below w.heap.size w w'
theorem r7Pack_no (kind : UInt8) (A : Option Addr) (n c : Nat) (l : List (List UInt8)) (w : World) (h : TxtA w A n l) (hs : cSz l ≤ 1001000) (hn : ¬ cFits kind l) :
    Calls Tryd.prog 11 #[.int .u8 (kind.toNat : Int), .slice A n c] w (RPackEnd [] 1 w) := by
  have HS := Lib.hid (r7Size_any A n c l w h hs)
  by_cases hk : kind = 0
  · subst hk
    go_enter Tryd.func11, Tryd.ntmps11
    go_wp2
    go_ret2
    exact ⟨rfl, Below.refl _ _⟩
  · have hk0 : ((kind.toNat : Int) == 0) = false := beq_false_of_ne (fun e => hk (UInt8.toNat_inj.1 (by simpa using e)))
    have hz : 122 < cSz l := by
      unfold cFits at hn
      have : ¬ cSz l ≤ 122 := fun e => hn ⟨hk, e⟩
      omega
    clear hn h hs
    have e2 : decide (122 < (cSz l : Int)) = true := by simp; omega
    go_enter Tryd.func11, Tryd.ntmps11
    go_wp2_with (go_at_call 14; refine HS.out.mono ?_; rintro e w1 ⟨rfl, rfl⟩)
    go_ret2
    exact ⟨rfl, Below.refl _ _⟩

set_option maxRecDepth 100000 in
set_option maxHeartbeats 4000000 in
theorem r7Pack_yes (kind : UInt8) (A : Option Addr) (n c : Nat) (l : List (List UInt8)) (w : World) (h : TxtA w A n l) (hy : cFits kind l) :
    Calls Tryd.prog 11 #[.int .u8 (kind.toNat : Int), .slice A n c] w (RPackEnd (cPage kind l) 0 w) := by
  have HS := Lib.hid (r7Size_any A n c l w h (by have := hy.2; omega))
  have HA := Lib.hid h
  have HL := Lib.hid h.len
  have hk0 : ((kind.toNat : Int) == 0) = false := beq_false_of_ne (fun e => hy.1 (UInt8.toNat_inj.1 (by simpa using e)))
  have hz := hy.2
  have hn : n ≤ 122 := by have := cSz_len l; have := h.len; omega
  have hkl := kind.toNat_lt
  have e2 : decide (122 < (cSz l : Int)) = false := by simp; omega
  clear h hy
  go_enter Tryd.func11, Tryd.ntmps11
  go_wp2_with (go_at_call 14; refine HS.out.mono ?_; rintro e w1 ⟨rfl, rfl⟩)
  go_loopw [6, 7, 8] (fun s b i wr => ∃ k : Nat, k ≤ n ∧ i = .int .i64 k ∧ s = .string ⟨(cSlots 128 (l.take k)).toArray⟩ ∧ b = .string ⟨(cBack (l.take k)).toArray⟩ ∧ Below w.heap.size w wr) (fun _ _ i _ => n - (intOf i).toNat)
  case atStart => exact ⟨0, Nat.zero_le _, rfl, rfl, rfl, Below.refl _ _⟩
  case round =>
    obtain ⟨k, hk, rfl, rfl, rfl, hB⟩ := hrel
    have HB := Lib.hid hB
    by_cases hlt : k < n
    · have hkl2 : k < l.length := by rw [← HL.out]; exact hlt
      obtain ⟨g, off, rfl, hc⟩ := (HA.out.below hB).at hkl2
      have hm := cSz_more (List.getElem?_eq_getElem hkl2)
      have hme := cSz_take l (k + 1)
      have hbl := cBack_len (l.take k)
      have hta := List.take_succ_eq_append_getElem hkl2
      generalize l[k] = y at *
      have n1 : cSlots 128 (l.take (k + 1)) = cSlots 128 (l.take k) ++ [UInt8.ofNat (128 - (cBack (l.take k)).length - y.length)] := by rw [hta, cSlots_snoc]
      have n2 : cBack (l.take (k + 1)) = y ++ cBack (l.take k) := by rw [hta, cBack_snoc]
      have N1 := Lib.hid n1
      have N2 := Lib.hid n2
      have hs0 : (cSlots 128 (l.take k)).length ≤ 122 := by rw [cSlots_len, List.length_take]; omega
      have hb0 : (cBack (l.take k)).length + y.length ≤ 122 := by omega
      clear hB n1 n2 hta hbl hme hm hkl2
      obtain ⟨S, hS⟩ : ∃ S, cSlots 128 (l.take k) = S := ⟨_, rfl⟩
      obtain ⟨B, hBk⟩ : ∃ B, cBack (l.take k) = B := ⟨_, rfl⟩
      rw [hS] at hs0 N1 ⊢
      rw [hBk] at hb0 N1 N2 ⊢
      clear hS hBk
      have hyb : ((⟨y.toArray⟩ : ByteArray) ++ ⟨B.toArray⟩) = ⟨(y ++ B).toArray⟩ := str_app y ⟨B.toArray⟩
      have hzl : ((⟨(y ++ B).toArray⟩ : ByteArray)).size = y.length + B.length := by rw [size_list, List.length_append]
      obtain ⟨r, hr⟩ : ∃ r, 128 - B.length - y.length = r := ⟨_, rfl⟩
      have hpr : (128 : Int) - ((y.length : Int) + (B.length : Int)) = (r : Int) := by omega
      have hr1 : r ≤ 255 := by omega
      have hsb := str_byte r hr1
      have hss : ((⟨S.toArray⟩ : ByteArray) ++ ⟨[UInt8.ofNat r].toArray⟩) = ⟨(S ++ [UInt8.ofNat r]).toArray⟩ := str_app S ⟨[UInt8.ofNat r].toArray⟩
      rw [hr] at N1
      clear hr
      have hyl : y.length ≤ 122 := by omega
      have hBl : B.length ≤ 122 := by omega
      go_wp2
      go_roundw
      case rel => exact ⟨k + 1, by omega, by go_num, str_eq2 (by rw [N1.out]), str_eq2 (by rw [N2.out]), HB.out.alloc HB.out.size _⟩
      case measure => simp [intOf]; omega
    · obtain rfl : k = n := by omega
      have htk : l.take k = l := List.take_of_length_le (by rw [← HL.out]; exact Nat.le_refl _)
      rw [htk]
      have HBD : Hid (cPage kind l = tagB ([kind, UInt8.ofNat k] ++ cSlots 128 l ++ (List.replicate (122 - cSz l) 0 ++ cBack l))) := Lib.hid (by
        unfold cPage cBody
        rw [← HL.out]
        simp)
      have hbl := cBack_len l
      have hsl := cSlots_len l 128
      have HKL : Hid (l.length = k) := Lib.hid HL.out.symm
      obtain ⟨S, hS⟩ : ∃ S, cSlots 128 l = S := ⟨_, rfl⟩
      obtain ⟨B, hBk⟩ : ∃ B, cBack l = B := ⟨_, rfl⟩
      rw [hS, hBk] at HBD
      rw [hS] at hsl ⊢
      rw [hBk] at hbl ⊢
      rw [← HL.out] at hsl hbl
      clear hS hBk htk
      obtain ⟨wo, hwo⟩ : ∃ wo : World, wo = wr := ⟨_, rfl⟩
      subst hwo
      have hs2 := fun W => str_byte2 kind.toNat k (by omega) (by omega) W
      rw [UInt8.ofNat_toNat] at hs2
      have hss : ((⟨[kind, UInt8.ofNat k].toArray⟩ : ByteArray) ++ ⟨S.toArray⟩) = ⟨([kind, UInt8.ofNat k] ++ S).toArray⟩ := str_app _ ⟨S.toArray⟩
      obtain ⟨m, hm⟩ : ∃ m, 122 - cSz l = m := ⟨_, rfl⟩
      have hme : (124 : Int) - ((k : Int) + 1 + 1) - (B.length : Int) = (m : Int) := by omega
      have hml : m ≤ 122 := by omega
      have hmk := fun W => make_bytes m (by omega) W
      have hst := str_zero m
      have hzl : (List.replicate m (0 : UInt8)).length ≤ 122 := by rw [List.length_replicate]; exact hml
      rw [hm] at HBD
      clear hm
      obtain ⟨Z, hZ⟩ : ∃ Z, List.replicate m (0 : UInt8) = Z := ⟨_, rfl⟩
      rw [hZ] at HBD hst hzl
      clear hZ
      have hst1 := hst (wo.alloc (.cells #[.int .u8 (kind.toNat : Int), .int .u8 (k : Int)] 5))
      have e9 : (wo.alloc (.cells #[.int .u8 (kind.toNat : Int), .int .u8 (k : Int)] 5)).heap.size = wo.heap.size + 1 := by simp
      rw [e9] at hst1
      clear e9 hst
      obtain ⟨T, hT⟩ : ∃ T, [kind, UInt8.ofNat k] ++ S ++ (Z ++ B) = T := ⟨_, rfl⟩
      have hX : (⟨(kind :: UInt8.ofNat k :: S).toArray⟩ : ByteArray) ++ (⟨Z.toArray⟩ ++ ⟨B.toArray⟩) = ⟨T.toArray⟩ := by
        rw [← hT]
        apply ByteArray.ext
        simp
      have hTl : T.length ≤ 1000 := by
        rw [← hT]
        simp only [List.length_append, List.length_cons, List.length_nil]
        omega
      rw [hT] at HBD
      have hSZ : (⟨T.toArray⟩ : ByteArray).size ≤ 1000000 := by rw [size_list]; omega
      have hol := ofN_lt T
      have HOF := Lib.hid (fun W => r2Of_any ⟨T.toArray⟩ W hSZ)
      have HNM := Lib.hid (fun W => rNum_yes (ofN T) 4 W (by omega) (by omega) (by omega))
      have hnl : (numB (ofN T) 4).length ≤ 4 := by rw [numB_len]; omega
      have HTG : Hid (tagB T = numB (ofN T) 4 ++ T) := Lib.hid rfl
      clear hT hSZ
      generalize ofN T = f at *
      generalize numB f 4 = NB at *
      go_wp2_with (first
        | (go_at_call 21; refine (HOF.out _).mono ?_; rintro e w1 ⟨rfl, rfl⟩)
        | (go_at_call 20; refine (HNM.out _).mono ?_; rintro e w2 ⟨rfl, h2⟩; have B2 := Lib.hid h2; clear h2))
      go_ret2
      refine ⟨by rw [HBD.out, HTG.out]; first | rfl | simp, ?_⟩
      exact below_step ((HB.out.alloc HB.out.size _).alloc (by have := HB.out.size; simp; omega) _) B2.out

end Go.Proofs.YtlehajpadiiicaaDoor
