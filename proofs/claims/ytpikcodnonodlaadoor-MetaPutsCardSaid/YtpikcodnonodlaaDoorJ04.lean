import Derived.Test.YtpikcodnonodlaaDoorJ03
import Derived.Test.YtpikcodnonodlaaDoorJ02
import Derived.Test.YtpikcodnonodlaaDoorJ00
import Derived.OwnWalk
/- Of a claim's texts, joined: Ced Mtk Mtb. No statement but in the last. -/
section
namespace Go.Proofs.YtpikcodnonodlaaDoor
open Go.RowKit
set_option linter.unusedVariables false

theorem str_byte (r : Nat) (hr : r ≤ 255) (W : World) : (convert 26 9 (.slice (some ⟨W.heap.size, 0, none⟩) 1 1)).run Tryd.prog (W.alloc (.cells #[.int .u8 (r : Int)] 5)) = .ok (.string ⟨[UInt8.ofNat r].toArray⟩) (W.alloc (.cells #[.int .u8 (r : Int)] 5)) := by
  have h := row_made W [UInt8.ofNat r]
  have e : (([UInt8.ofNat r] : List UInt8).map byteV).toArray = #[.int .u8 (r : Int)] := by simp [byteV]; omega
  rw [e] at h
  exact str_row (n := 1) (c := 1) rfl h
theorem str_byte2 (x y : Nat) (hx : x ≤ 255) (hy : y ≤ 255) (W : World) : (convert 26 9 (.slice (some ⟨W.heap.size, 0, none⟩) 2 2)).run Tryd.prog (W.alloc (.cells #[.int .u8 (x : Int), .int .u8 (y : Int)] 5)) = .ok (.string ⟨[UInt8.ofNat x, UInt8.ofNat y].toArray⟩) (W.alloc (.cells #[.int .u8 (x : Int), .int .u8 (y : Int)] 5)) := by
  have h := row_made W [UInt8.ofNat x, UInt8.ofNat y]
  have e : (([UInt8.ofNat x, UInt8.ofNat y] : List UInt8).map byteV).toArray = #[.int .u8 (x : Int), .int .u8 (y : Int)] := by simp [byteV]; omega
  rw [e] at h
  exact str_row (n := 2) (c := 2) rfl h
theorem made_zero (n : Nat) : madeCells #[.int .u8 0] n = ((List.replicate n (0 : UInt8)).map byteV).toArray := by
  apply Array.ext_getElem?
  intro i
  by_cases h : i < n
  · have h1 : (madeCells #[.int .u8 0] n)[i]? = some (.int .u8 0) := by
      have : i % 1 = 0 := Nat.mod_one i
      simp [madeCells, h, this]
    have h2 : ((List.replicate n (0 : UInt8)).map byteV).toArray[i]? = some (.int .u8 0) := by simp [h, byteV]
    rw [h1, h2]
  · rw [Array.getElem?_eq_none (by rw [size_madeCells]; omega), Array.getElem?_eq_none (by simp; omega)]
theorem str_zero (n : Nat) (W : World) : (convert 26 9 (.slice (some ⟨W.heap.size, 0, none⟩) n n)).run Tryd.prog (W.alloc (.cells (madeCells #[.int .u8 0] n) 5)) = .ok (.string ⟨(List.replicate n (0 : UInt8)).toArray⟩) (W.alloc (.cells (madeCells #[.int .u8 0] n) 5)) := by
  rw [made_zero]
  exact str_row (n := n) (c := n) (by simp) (row_made W (List.replicate n 0))

def RPackEnd (s : List UInt8) (er : Int) (w : World) (e : Ending) (w' : World) : Prop := e = .returned (.tuple #[.string ⟨s.toArray⟩, .int .i64 er]) ∧ Below w.heap.size w w'
theorem r7Pack_no (kind : UInt8) (A : Option Addr) (n c : Nat) (l : List (List UInt8)) (w : World) (h : TxtA w A n l) (hs : cSz l ≤ 1001000) (hn : ¬ cFits kind l) :
    Calls Tryd.prog 25 #[.int .u8 (kind.toNat : Int), .slice A n c] w (RPackEnd [] 1 w) := by
  have HS := Lib.hid (r7Size_any A n c l w h hs)
  by_cases hk : kind = 0
  · subst hk
    go_enter Tryd.func25, Tryd.ntmps25
    go_wp2
    go_ret2
    exact ⟨rfl, Below.refl _ _⟩
  · have hk0 : ((kind.toNat : Int) == 0) = false := beq_false_of_ne (fun e => hk (UInt8.toNat_inj.1 (by simpa using e)))
    have hz : 122 < cSz l := by
      unfold cFits at hn
      have : ¬ cSz l ≤ 122 := fun e => hn ⟨hk, e⟩
      omega
    clear hn h hs
    have e2 : decide (122 < (cSz l : Int)) = true := by simp; omega
    go_enter Tryd.func25, Tryd.ntmps25
    go_wp2_with (go_at_call 38; refine HS.out.mono ?_; rintro e w1 ⟨rfl, rfl⟩)
    go_ret2
    exact ⟨rfl, Below.refl _ _⟩

set_option maxRecDepth 100000 in
set_option maxHeartbeats 4000000 in
theorem r7Pack_yes (kind : UInt8) (A : Option Addr) (n c : Nat) (l : List (List UInt8)) (w : World) (h : TxtA w A n l) (hy : cFits kind l) :
    Calls Tryd.prog 25 #[.int .u8 (kind.toNat : Int), .slice A n c] w (RPackEnd (cPage kind l) 0 w) := by
  have HS := Lib.hid (r7Size_any A n c l w h (by have := hy.2; omega))
  have HA := Lib.hid h
  have HL := Lib.hid h.len
  have hk0 : ((kind.toNat : Int) == 0) = false := beq_false_of_ne (fun e => hy.1 (UInt8.toNat_inj.1 (by simpa using e)))
  have hz := hy.2
  have hn : n ≤ 122 := by have := cSz_len l; have := h.len; omega
  have hkl := kind.toNat_lt
  have e2 : decide (122 < (cSz l : Int)) = false := by simp; omega
  clear h hy
  go_enter Tryd.func25, Tryd.ntmps25
  go_wp2_with (go_at_call 38; refine HS.out.mono ?_; rintro e w1 ⟨rfl, rfl⟩)
  go_loopw [6, 7, 8] (fun s b i wr => ∃ k : Nat, k ≤ n ∧ i = .int .i64 k ∧ s = .string ⟨(cSlots 128 (l.take k)).toArray⟩ ∧ b = .string ⟨(cBack (l.take k)).toArray⟩ ∧ Below w.heap.size w wr) (fun _ _ i _ => n - (intOf i).toNat)
  case atStart => exact ⟨0, Nat.zero_le _, rfl, rfl, rfl, Below.refl _ _⟩
  case round =>
    obtain ⟨k, hk, rfl, rfl, rfl, hB⟩ := hrel
    have HB := Lib.hid hB
    by_cases hlt : k < n
    · have hkl2 : k < l.length := by rw [← HL.out]; exact hlt
      obtain ⟨g, off, rfl, hc⟩ := (HA.out.below hB).at hkl2
      have hm := cSz_more (List.getElem?_eq_getElem hkl2)
      have hme := cSz_take l (k + 1)
      have hbl := cBack_len (l.take k)
      have hta := List.take_succ_eq_append_getElem hkl2
      generalize l[k] = y at *
      have n1 : cSlots 128 (l.take (k + 1)) = cSlots 128 (l.take k) ++ [UInt8.ofNat (128 - (cBack (l.take k)).length - y.length)] := by rw [hta, cSlots_snoc]
      have n2 : cBack (l.take (k + 1)) = y ++ cBack (l.take k) := by rw [hta, cBack_snoc]
      have N1 := Lib.hid n1
      have N2 := Lib.hid n2
      have hs0 : (cSlots 128 (l.take k)).length ≤ 122 := by rw [cSlots_len, List.length_take]; omega
      have hb0 : (cBack (l.take k)).length + y.length ≤ 122 := by omega
      clear hB n1 n2 hta hbl hme hm hkl2
      obtain ⟨S, hS⟩ : ∃ S, cSlots 128 (l.take k) = S := ⟨_, rfl⟩
      obtain ⟨B, hBk⟩ : ∃ B, cBack (l.take k) = B := ⟨_, rfl⟩
      rw [hS] at hs0 N1 ⊢
      rw [hBk] at hb0 N1 N2 ⊢
      clear hS hBk
      have hyb : ((⟨y.toArray⟩ : ByteArray) ++ ⟨B.toArray⟩) = ⟨(y ++ B).toArray⟩ := str_app y ⟨B.toArray⟩
      have hzl : ((⟨(y ++ B).toArray⟩ : ByteArray)).size = y.length + B.length := by rw [size_list, List.length_append]
      obtain ⟨r, hr⟩ : ∃ r, 128 - B.length - y.length = r := ⟨_, rfl⟩
      have hpr : (128 : Int) - ((y.length : Int) + (B.length : Int)) = (r : Int) := by omega
      have hr1 : r ≤ 255 := by omega
      have hsb := str_byte r hr1
      have hss : ((⟨S.toArray⟩ : ByteArray) ++ ⟨[UInt8.ofNat r].toArray⟩) = ⟨(S ++ [UInt8.ofNat r]).toArray⟩ := str_app S ⟨[UInt8.ofNat r].toArray⟩
      rw [hr] at N1
      clear hr
      have hyl : y.length ≤ 122 := by omega
      have hBl : B.length ≤ 122 := by omega
      go_wp2
      go_roundw
      case rel => exact ⟨k + 1, by omega, by go_num, str_eq2 (by rw [N1.out]), str_eq2 (by rw [N2.out]), HB.out.alloc HB.out.size _⟩
      case measure => simp [intOf]; omega
    · obtain rfl : k = n := by omega
      have htk : l.take k = l := List.take_of_length_le (by rw [← HL.out]; exact Nat.le_refl _)
      rw [htk]
      have HBD : Hid (cPage kind l = tagB ([kind, UInt8.ofNat k] ++ cSlots 128 l ++ (List.replicate (122 - cSz l) 0 ++ cBack l))) := Lib.hid (by
        unfold cPage cBody
        rw [← HL.out]
        simp)
      have hbl := cBack_len l
      have hsl := cSlots_len l 128
      have HKL : Hid (l.length = k) := Lib.hid HL.out.symm
      obtain ⟨S, hS⟩ : ∃ S, cSlots 128 l = S := ⟨_, rfl⟩
      obtain ⟨B, hBk⟩ : ∃ B, cBack l = B := ⟨_, rfl⟩
      rw [hS, hBk] at HBD
      rw [hS] at hsl ⊢
      rw [hBk] at hbl ⊢
      rw [← HL.out] at hsl hbl
      clear hS hBk htk
      obtain ⟨wo, hwo⟩ : ∃ wo : World, wo = wr := ⟨_, rfl⟩
      subst hwo
      have hs2 := fun W => str_byte2 kind.toNat k (by omega) (by omega) W
      rw [UInt8.ofNat_toNat] at hs2
      have hss : ((⟨[kind, UInt8.ofNat k].toArray⟩ : ByteArray) ++ ⟨S.toArray⟩) = ⟨([kind, UInt8.ofNat k] ++ S).toArray⟩ := str_app _ ⟨S.toArray⟩
      obtain ⟨m, hm⟩ : ∃ m, 122 - cSz l = m := ⟨_, rfl⟩
      have hme : (124 : Int) - ((k : Int) + 1 + 1) - (B.length : Int) = (m : Int) := by omega
      have hml : m ≤ 122 := by omega
      have hmk := fun W => make_bytes m (by omega) W
      have hst := str_zero m
      have hzl : (List.replicate m (0 : UInt8)).length ≤ 122 := by rw [List.length_replicate]; exact hml
      rw [hm] at HBD
      clear hm
      obtain ⟨Z, hZ⟩ : ∃ Z, List.replicate m (0 : UInt8) = Z := ⟨_, rfl⟩
      rw [hZ] at HBD hst hzl
      clear hZ
      have hst1 := hst (wo.alloc (.cells #[.int .u8 (kind.toNat : Int), .int .u8 (k : Int)] 5))
      have e9 : (wo.alloc (.cells #[.int .u8 (kind.toNat : Int), .int .u8 (k : Int)] 5)).heap.size = wo.heap.size + 1 := by simp
      rw [e9] at hst1
      clear e9 hst
      obtain ⟨T, hT⟩ : ∃ T, [kind, UInt8.ofNat k] ++ S ++ (Z ++ B) = T := ⟨_, rfl⟩
      have hX : (⟨(kind :: UInt8.ofNat k :: S).toArray⟩ : ByteArray) ++ (⟨Z.toArray⟩ ++ ⟨B.toArray⟩) = ⟨T.toArray⟩ := by
        rw [← hT]
        apply ByteArray.ext
        simp
      have hTl : T.length ≤ 1000 := by
        rw [← hT]
        simp only [List.length_append, List.length_cons, List.length_nil]
        omega
      rw [hT] at HBD
      have hSZ : (⟨T.toArray⟩ : ByteArray).size ≤ 1000000 := by rw [size_list]; omega
      have hol := ofN_lt T
      have HOF := Lib.hid (fun W => r2Of_any ⟨T.toArray⟩ W hSZ)
      have HNM := Lib.hid (fun W => rNum_yes (ofN T) 4 W (by omega) (by omega) (by omega))
      have hnl : (numB (ofN T) 4).length ≤ 4 := by rw [numB_len]; omega
      have HTG : Hid (tagB T = numB (ofN T) 4 ++ T) := Lib.hid rfl
      clear hT hSZ
      generalize ofN T = f at *
      generalize numB f 4 = NB at *
      go_wp2_with (first
        | (go_at_call 39; refine (HOF.out _).mono ?_; rintro e w1 ⟨rfl, rfl⟩)
        | (go_at_call 24; refine (HNM.out _).mono ?_; rintro e w2 ⟨rfl, h2⟩; have B2 := Lib.hid h2; clear h2))
      go_ret2
      refine ⟨by rw [HBD.out, HTG.out]; first | rfl | simp, ?_⟩
      exact below_step ((HB.out.alloc HB.out.size _).alloc (by have := HB.out.size; simp; omega) _) B2.out

end Go.Proofs.YtpikcodnonodlaaDoor
end

section
namespace Go.Proofs.YtpikcodnonodlaaDoor
open Go.RowKit
set_option linter.unusedVariables false

set_option maxRecDepth 100000 in
set_option maxHeartbeats 8000000 in
theorem r10Check_any (m : Mt) (w : World) : Calls Tryd.prog 13 #[mtV m] w fun e w' => e = .returned (.bool (decide (checkM m))) ∧ Below w.heap.size w w' := by
  obtain ⟨label, txn, root, list, high⟩ := m
  obtain ⟨W, hW, hb, hh⟩ := rbox w ⟨label, txn, root, list, high⟩
  have HP := Lib.hid (fun p w1 => r10place_any ⟨label, txn, root, list, high⟩ p w1)
  have HNO : Hid (¬ checkM ⟨label, txn, root, list, high⟩ → decide (checkM ⟨label, txn, root, list, high⟩) = false) := Lib.hid (fun h => decide_eq_false h)
  have HYES : Hid (checkM ⟨label, txn, root, list, high⟩ → decide (checkM ⟨label, txn, root, list, high⟩) = true) := Lib.hid (fun h => decide_eq_true h)
  simp only [mtV, mtC] at hW hh HP ⊢
  obtain ⟨dc, hdc⟩ : ∃ dc, decide (checkM ⟨label, txn, root, list, high⟩) = dc := ⟨_, rfl⟩
  rw [hdc] at HNO HYES ⊢
  have c0 := hh.cell 0
  have c1 := hh.cell 1
  have c2 := hh.cell 2
  have c3 := hh.cell 3
  have c4 := hh.cell 4
  have HB := Lib.hid hb
  have HH := Lib.hid hh
  clear hb hh hdc
  by_cases z0 : 0 ≤ label
  rotate_left
  · have HD := HNO.out (fun hc => z0 hc.1)
    clear HNO HYES
    go_enter Tryd.func13, Tryd.ntmps13
    go_wp2
    go_ret
    exact ⟨by first | rfl | (rw [HD]; rfl), HB.out⟩
  by_cases z1 : label < 64
  rotate_left
  · have HD := HNO.out (fun hc => z1 hc.2.1)
    clear HNO HYES
    go_enter Tryd.func13, Tryd.ntmps13
    go_wp2
    go_ret
    exact ⟨by first | rfl | (rw [HD]; rfl), HB.out⟩
  by_cases z2 : 0 < txn
  rotate_left
  · have HD := HNO.out (fun hc => z2 hc.2.2.1)
    have z2b : ¬ (0 : Int) < (txn : Int) := by omega
    have z2c : (0 < txn) = False := by simpa using z2
    clear z2
    clear HNO HYES
    go_enter Tryd.func13, Tryd.ntmps13
    go_wp2
    go_ret
    exact ⟨by first | rfl | (rw [HD]; rfl), HB.out⟩
  have z2b : (0 : Int) < (txn : Int) := by omega
  by_cases z3 : 2 ≤ high
  rotate_left
  · have HD := HNO.out (fun hc => z3 hc.2.2.2.1)
    clear HNO HYES
    go_enter Tryd.func13, Tryd.ntmps13
    go_wp2
    go_ret
    exact ⟨by first | rfl | (rw [HD]; rfl), HB.out⟩
  by_cases z4 : high ≤ 1000
  rotate_left
  · have HD := HNO.out (fun hc => z4 hc.2.2.2.2.1)
    clear HNO HYES
    go_enter Tryd.func13, Tryd.ntmps13
    go_wp2
    go_ret
    exact ⟨by first | rfl | (rw [HD]; rfl), HB.out⟩
  by_cases z5 : placeM root high
  rotate_left
  · have HD := HNO.out (fun hc => z5 hc.2.2.2.2.2.1)
    have HP1 := Lib.hid (fun w1 => HP.out root w1)
    rw [show decide (placeM root high) = false from decide_eq_false z5] at HP1
    clear HNO HYES
    go_enter Tryd.func13, Tryd.ntmps13
    go_wp2_with (first
      | (go_at_call 27; (try rw [hW]); (with_reducible refine (HP1.out _).mono ?_); rintro q1 w1 ⟨rfl, b1⟩; have B1 := Lib.hid (below_step HB.out b1); have y1 := HH.out.below b1 HH.out.lt; have e10 := y1.cell 0; have e11 := y1.cell 1; have e12 := y1.cell 2; have e13 := y1.cell 3; have e14 := y1.cell 4; have H1 := Lib.hid y1; clear b1 y1))
    go_ret
    exact ⟨by first | rfl | (rw [HD]; rfl), B1.out⟩
  have HP1 := Lib.hid (fun w1 => HP.out root w1)
  rw [show decide (placeM root high) = true from decide_eq_true z5] at HP1
  by_cases z6 : placeM list high
  rotate_left
  · have HD := HNO.out (fun hc => z6 hc.2.2.2.2.2.2.1)
    have HP2 := Lib.hid (fun w1 => HP.out list w1)
    rw [show decide (placeM list high) = false from decide_eq_false z6] at HP2
    clear HNO HYES
    go_enter Tryd.func13, Tryd.ntmps13
    go_wp2_with (first
      | (go_at_call 27; (with_reducible refine (HP2.out _).mono ?_); rintro q2 w2 ⟨rfl, b2⟩; have B2 := Lib.hid (below_step B1.out b2); have y2 := H1.out.below b2 H1.out.lt; have e20 := y2.cell 0; have e21 := y2.cell 1; have e22 := y2.cell 2; have e23 := y2.cell 3; have e24 := y2.cell 4; clear b2 y2)
      | (go_at_call 27; (try rw [hW]); (with_reducible refine (HP1.out _).mono ?_); rintro q1 w1 ⟨rfl, b1⟩; have B1 := Lib.hid (below_step HB.out b1); have y1 := HH.out.below b1 HH.out.lt; have e10 := y1.cell 0; have e11 := y1.cell 1; have e12 := y1.cell 2; have e13 := y1.cell 3; have e14 := y1.cell 4; have H1 := Lib.hid y1; clear b1 y1))
    go_ret
    exact ⟨by first | rfl | (rw [HD]; rfl), B2.out⟩
  have HP2 := Lib.hid (fun w1 => HP.out list w1)
  rw [show decide (placeM list high) = true from decide_eq_true z6] at HP2
  by_cases z7 : root ≠ list ∨ root = 0
  rotate_left
  · have HD := HNO.out (fun hc => z7 hc.2.2.2.2.2.2.2)
    have z71 : root = list := by
      by_cases h : root = list
      · exact h
      · exact absurd (Or.inl h) z7
    have z72 : ¬ root = 0 := fun h => z7 (Or.inr h)
    have z73 : (root != list) = false := by simpa using z71
    have z74 : (root == 0) = false := by simpa using z72
    clear z7
    subst z71
    clear HNO HYES
    go_enter Tryd.func13, Tryd.ntmps13
    go_wp2_with (first
      | (go_at_call 27; (with_reducible refine (HP2.out _).mono ?_); rintro q2 w2 ⟨rfl, b2⟩; have B2 := Lib.hid (below_step B1.out b2); have y2 := H1.out.below b2 H1.out.lt; have e20 := y2.cell 0; have e21 := y2.cell 1; have e22 := y2.cell 2; have e23 := y2.cell 3; have e24 := y2.cell 4; clear b2 y2)
      | (go_at_call 27; (try rw [hW]); (with_reducible refine (HP1.out _).mono ?_); rintro q1 w1 ⟨rfl, b1⟩; have B1 := Lib.hid (below_step HB.out b1); have y1 := HH.out.below b1 HH.out.lt; have e10 := y1.cell 0; have e11 := y1.cell 1; have e12 := y1.cell 2; have e13 := y1.cell 3; have e14 := y1.cell 4; have H1 := Lib.hid y1; clear b1 y1))
    go_ret
    exact ⟨by first | rfl | (rw [HD]; rfl), B2.out⟩
  have HD := HYES.out ⟨z0, z1, z2, z3, z4, z5, z6, z7⟩
  clear HNO HYES
  by_cases z8 : root = list
  · obtain rfl : root = 0 := z7.resolve_left (fun h => h z8)
    subst z8
    go_enter Tryd.func13, Tryd.ntmps13
    go_wp2_with (first
      | (go_at_call 27; (with_reducible refine (HP2.out _).mono ?_); rintro q2 w2 ⟨rfl, b2⟩; have B2 := Lib.hid (below_step B1.out b2); have y2 := H1.out.below b2 H1.out.lt; have e20 := y2.cell 0; have e21 := y2.cell 1; have e22 := y2.cell 2; have e23 := y2.cell 3; have e24 := y2.cell 4; clear b2 y2)
      | (go_at_call 27; (try rw [hW]); (with_reducible refine (HP1.out _).mono ?_); rintro q1 w1 ⟨rfl, b1⟩; have B1 := Lib.hid (below_step HB.out b1); have y1 := HH.out.below b1 HH.out.lt; have e10 := y1.cell 0; have e11 := y1.cell 1; have e12 := y1.cell 2; have e13 := y1.cell 3; have e14 := y1.cell 4; have H1 := Lib.hid y1; clear b1 y1))
    go_ret
    exact ⟨by first | rfl | (rw [HD]; rfl), B2.out⟩
  · have z9 : (root != list) = true := by simpa using z8
    clear z7
    go_enter Tryd.func13, Tryd.ntmps13
    go_wp2_with (first
      | (go_at_call 27; (with_reducible refine (HP2.out _).mono ?_); rintro q2 w2 ⟨rfl, b2⟩; have B2 := Lib.hid (below_step B1.out b2); have y2 := H1.out.below b2 H1.out.lt; have e20 := y2.cell 0; have e21 := y2.cell 1; have e22 := y2.cell 2; have e23 := y2.cell 3; have e24 := y2.cell 4; clear b2 y2)
      | (go_at_call 27; (try rw [hW]); (with_reducible refine (HP1.out _).mono ?_); rintro q1 w1 ⟨rfl, b1⟩; have B1 := Lib.hid (below_step HB.out b1); have y1 := HH.out.below b1 HH.out.lt; have e10 := y1.cell 0; have e11 := y1.cell 1; have e12 := y1.cell 2; have e13 := y1.cell 3; have e14 := y1.cell 4; have H1 := Lib.hid y1; clear b1 y1))
    go_ret
    exact ⟨by first | rfl | (rw [HD]; rfl), B2.out⟩
theorem r10Put_no (m : Mt) (w : World) (hc : ¬ checkM m) : Calls Tryd.prog 10 #[mtV m] w (RPackEnd [] 1 w) := by
  obtain ⟨label, txn, root, list, high⟩ := m
  obtain ⟨W, hW, hb, hh⟩ := rbox w ⟨label, txn, root, list, high⟩
  have HC := Lib.hid (fun w1 => r10Check_any ⟨label, txn, root, list, high⟩ w1)
  rw [decide_eq_false hc] at HC
  simp only [mtV, mtC] at hW hh HC ⊢
  have m0 := hh.cell 0
  have m1 := hh.cell 1
  have m2 := hh.cell 2
  have m3 := hh.cell 3
  have m4 := hh.cell 4
  have HB := Lib.hid hb
  clear hb hh hc
  go_enter Tryd.func10, Tryd.ntmps10
  go_wp2_with (go_at_call 13; (try rw [hW]); (with_reducible refine (HC.out _).mono ?_); rintro r1 w1 ⟨rfl, b1⟩; have B1 := Lib.hid (below_step HB.out b1); clear b1)
  go_ret2
  exact ⟨rfl, B1.out⟩

set_option maxRecDepth 100000 in
set_option maxHeartbeats 16000000 in
theorem r10Put_nat (lb txn rt ls hg : Nat) (w : World) (hc : checkM ⟨lb, txn, rt, ls, hg⟩) (htx : txn < 18446744073709551616) :
    Calls Tryd.prog 10 #[mtV ⟨lb, txn, rt, ls, hg⟩] w (RPackEnd (pageM ⟨lb, txn, rt, ls, hg⟩) 0 w) := by
  have hmx : Tryd.prog.follows .mixedOrders = true := by kernel_rfl
  obtain ⟨a0, a1, a2, a3, a4, a5, a6, a7, a8⟩ := checkM_few hc
  simp only at a0 a1 a2 a3 a4 a5 a6 a7 a8
  obtain ⟨W, hW, hb, hh⟩ := rbox w ⟨lb, txn, rt, ls, hg⟩
  have HC := Lib.hid (fun w1 => r10Check_any ⟨lb, txn, rt, ls, hg⟩ w1)
  rw [decide_eq_true hc] at HC
  have N1 : Hid (∀ w1, Calls Tryd.prog 24 #[.int .u64 (lb : Int), .int .i64 1] w1 fun e w' => e = .returned (.string ⟨(numB lb 1).toArray⟩) ∧ Below w1.heap.size w1 w') := Lib.hid (fun w1 => rNum_yes lb 1 w1 (by omega) (by omega) (by omega))
  have N2 : Hid (∀ w1, Calls Tryd.prog 24 #[.int .u64 (txn : Int), .int .i64 8] w1 fun e w' => e = .returned (.string ⟨(numB txn 8).toArray⟩) ∧ Below w1.heap.size w1 w') := Lib.hid (fun w1 => rNum_yes txn 8 w1 (by omega) (by omega) (by omega))
  have N3 : Hid (∀ w1, Calls Tryd.prog 24 #[.int .u64 (rt : Int), .int .i64 2] w1 fun e w' => e = .returned (.string ⟨(numB rt 2).toArray⟩) ∧ Below w1.heap.size w1 w') := Lib.hid (fun w1 => rNum_yes rt 2 w1 (by omega) (by omega) (by omega))
  have N4 : Hid (∀ w1, Calls Tryd.prog 24 #[.int .u64 (ls : Int), .int .i64 2] w1 fun e w' => e = .returned (.string ⟨(numB ls 2).toArray⟩) ∧ Below w1.heap.size w1 w') := Lib.hid (fun w1 => rNum_yes ls 2 w1 (by omega) (by omega) (by omega))
  have N5 : Hid (∀ w1, Calls Tryd.prog 24 #[.int .u64 (hg : Int), .int .i64 2] w1 fun e w' => e = .returned (.string ⟨(numB hg 2).toArray⟩) ∧ Below w1.heap.size w1 w') := Lib.hid (fun w1 => rNum_yes hg 2 w1 (by omega) (by omega) (by omega))
  have HST : Hid (((((⟨#[109, 101, 116, 97]⟩ : ByteArray) ++ ⟨(numB lb 1).toArray⟩) ++ ⟨(numB txn 8).toArray⟩) ++ (((⟨(numB rt 2).toArray⟩ : ByteArray) ++ ⟨(numB ls 2).toArray⟩) ++ ⟨(numB hg 2).toArray⟩)) = ⟨(cellM ⟨lb, txn, rt, ls, hg⟩).toArray⟩) := Lib.hid (by
    apply ByteArray.ext
    apply Array.ext'
    simp [cellM])
  have HPK : Hid (∀ A n c w1, TxtA w1 A n [cellM ⟨lb, txn, rt, ls, hg⟩] → Calls Tryd.prog 25 #[.int .u8 5, .slice A n c] w1 (RPackEnd (pageM ⟨lb, txn, rt, ls, hg⟩) 0 w1)) := Lib.hid (fun A n c w1 h => r7Pack_yes 5 A n c [cellM ⟨lb, txn, rt, ls, hg⟩] w1 h (cellM_fits _))
  have s1' : (⟨(numB lb 1).toArray⟩ : ByteArray).size = 1 := by rw [size_list, numB_len]
  have s2' : (⟨(numB txn 8).toArray⟩ : ByteArray).size = 8 := by rw [size_list, numB_len]
  have s3' : (⟨(numB rt 2).toArray⟩ : ByteArray).size = 2 := by rw [size_list, numB_len]
  have s4' : (⟨(numB ls 2).toArray⟩ : ByteArray).size = 2 := by rw [size_list, numB_len]
  have s5' : (⟨(numB hg 2).toArray⟩ : ByteArray).size = 2 := by rw [size_list, numB_len]
  generalize pageM ⟨lb, txn, rt, ls, hg⟩ = pg at HPK ⊢
  generalize cellM ⟨lb, txn, rt, ls, hg⟩ = cb at HST HPK
  generalize (⟨(numB lb 1).toArray⟩ : ByteArray) = k1 at N1 HST s1'
  have t1' : k1.size ≤ 8 := by omega
  clear s1'
  generalize (⟨(numB txn 8).toArray⟩ : ByteArray) = k2 at N2 HST s2'
  have t2' : k2.size ≤ 8 := by omega
  clear s2'
  generalize (⟨(numB rt 2).toArray⟩ : ByteArray) = k3 at N3 HST s3'
  have t3' : k3.size ≤ 8 := by omega
  clear s3'
  generalize (⟨(numB ls 2).toArray⟩ : ByteArray) = k4 at N4 HST s4'
  have t4' : k4.size ≤ 8 := by omega
  clear s4'
  generalize (⟨(numB hg 2).toArray⟩ : ByteArray) = k5 at N5 HST s5'
  have t5' : k5.size ≤ 8 := by omega
  clear s5'
  unfold RPackEnd at HPK
  have hw1 : IntKind.u64.wrap (lb : Int) = (lb : Int) := IntWalk.u64_in _ (by omega)
  have hw3 : IntKind.u64.wrap (rt : Int) = (rt : Int) := IntWalk.u64_in _ (by omega)
  have hw4 : IntKind.u64.wrap (ls : Int) = (ls : Int) := IntWalk.u64_in _ (by omega)
  have hw5 : IntKind.u64.wrap (hg : Int) = (hg : Int) := IntWalk.u64_in _ (by omega)
  simp only [mtV, mtC] at hW hh HC ⊢
  have m0 := hh.cell 0
  have m1 := hh.cell 1
  have m2 := hh.cell 2
  have m3 := hh.cell 3
  have m4 := hh.cell 4
  have HB := Lib.hid hb
  have HH := Lib.hid hh
  clear hb hh hc a0 a1 a2 a3 a4 a5 a6 a7 a8
  go_enter Tryd.func10, Tryd.ntmps10
  go_wp2_with (go_at_call 13; (try rw [hW]); (with_reducible refine (HC.out _).mono ?_); rintro r1 w1 ⟨rfl, b1⟩; have X1 := HH.out.below b1 HH.out.lt; have B1 := Lib.hid (below_step HB.out b1); clear b1)
  have X0 : Has w1.drew w.heap.size 32 #[.int .i64 (lb : Int), .int .u64 (txn : Int), .int .i64 (rt : Int), .int .i64 (ls : Int), .int .i64 (hg : Int)] := X1
  have B0 : Below w.heap.size w w1.drew := B1.out.drew
  clear X1 B1 m0 m1 m2 m3 m4
  rename_i K hK
  refine wp_held (fun w' => Has w' w.heap.size 32 #[.int .i64 (lb : Int), .int .u64 (txn : Int), .int .i64 (rt : Int), .int .i64 (ls : Int), .int .i64 (hg : Int)]) K hmx ?_ (fun _ _ h => h)
  refine wpAnyH_take (i := 0) (v := .pointer (some ⟨w.heap.size, 0, none⟩)) (lit rfl) (by kernel_rfl) (by kernel_rfl) (by kernel_rfl) (fun _ _ _ h => h) (Or.inl ⟨by rfl, ?_⟩) X0 ?_
  · rintro w6 s1
    go_simp
  simp only [Act.put, List.setIfInBounds_toArray, List.set_cons_zero, List.set_cons_succ]
  refine wpAnyH_take (i := 1) (v := .int .i64 (lb : Int)) (lit rfl) (by kernel_rfl) (by kernel_rfl) (by kernel_rfl) (fun _ _ _ h => h) (Or.inl ⟨by rfl, ?_⟩) X0 ?_
  · rintro w6 s1
    have d0 := s1.cell 0
    go_simp
  simp only [Act.put, List.setIfInBounds_toArray, List.set_cons_zero, List.set_cons_succ]
  refine wpAnyH_take (i := 2) (v := .int .u64 (lb : Int)) (lit rfl) (by kernel_rfl) (by kernel_rfl) (by kernel_rfl) (fun _ _ _ h => h) (Or.inl ⟨by rfl, ?_⟩) X0 ?_
  · rintro w6 s1
    go_simp
  simp only [Act.put, List.setIfInBounds_toArray, List.set_cons_zero, List.set_cons_succ]
  refine wpAnyH_take (i := 5) (v := .pointer (some ⟨w.heap.size, 1, none⟩)) (lit rfl) (by kernel_rfl) (by kernel_rfl) (by kernel_rfl) (fun _ _ _ h => h) (Or.inl ⟨by rfl, ?_⟩) X0 ?_
  · rintro w6 s1
    go_simp
  simp only [Act.put, List.setIfInBounds_toArray, List.set_cons_zero, List.set_cons_succ]
  refine wpAnyH_take (i := 6) (v := .int .u64 (txn : Int)) (lit rfl) (by kernel_rfl) (by kernel_rfl) (by kernel_rfl) (fun _ _ _ h => h) (Or.inl ⟨by rfl, ?_⟩) X0 ?_
  · rintro w6 s1
    have d0 := s1.cell 1
    go_simp
  simp only [Act.put, List.setIfInBounds_toArray, List.set_cons_zero, List.set_cons_succ]
  refine wpAnyH_ready (rs := [3]) (by kernel_rfl) (by simp) ?_
  refine AllReadyH.cons (lit rfl) (fun K5 hK5 => ?_) AllReadyH.nil
  refine step_open rfl ?_
  go_simp
  go_at_call 24
  (with_reducible refine (N1.out _).mono ?_)
  rintro q1 v1 ⟨rfl, b1⟩
  replace X0 := X0.below b1 X0.lt
  replace B0 := below_step B0 b1
  clear b1
  refine hK5.out _ _ X0 (fun _ => ?_)
  clear hK5 K5
  refine wpAnyH_take (i := 4) (v := .string ((⟨#[109, 101, 116, 97]⟩ : ByteArray) ++ k1)) (lit rfl) (by kernel_rfl) (by kernel_rfl) (by kernel_rfl) (fun _ _ _ h => h) (Or.inl ⟨by rfl, ?_⟩) X0 ?_
  · rintro w6 s1
    go_simp
    omega
  simp only [Act.put, List.setIfInBounds_toArray, List.set_cons_zero, List.set_cons_succ]
  refine wpAnyH_ready (rs := [7]) (by kernel_rfl) (by simp) ?_
  refine AllReadyH.cons (lit rfl) (fun K5 hK5 => ?_) AllReadyH.nil
  refine step_open rfl ?_
  go_simp
  go_at_call 24
  (with_reducible refine (N2.out _).mono ?_)
  rintro q2 v2 ⟨rfl, b1⟩
  replace X0 := X0.below b1 X0.lt
  replace B0 := below_step B0 b1
  clear b1
  refine hK5.out _ _ X0 (fun _ => ?_)
  clear hK5 K5
  refine wpAnyH_take (i := 8) (v := .string (((⟨#[109, 101, 116, 97]⟩ : ByteArray) ++ k1) ++ k2)) (lit rfl) (by kernel_rfl) (by kernel_rfl) (by kernel_rfl) (fun _ _ _ h => h) (Or.inl ⟨by rfl, ?_⟩) X0 ?_
  · rintro w6 s1
    go_simp
    omega
  simp only [Act.put, List.setIfInBounds_toArray, List.set_cons_zero, List.set_cons_succ]
  refine wpAnyH_take (i := 9) (v := .string (((⟨#[109, 101, 116, 97]⟩ : ByteArray) ++ k1) ++ k2)) (lit rfl) (by kernel_rfl) (by kernel_rfl) (by kernel_rfl) (fun _ _ _ h => h) (Or.inl ⟨by rfl, ?_⟩) X0 ?_
  · rintro w6 s1
    go_simp
  simp only [Act.put, List.setIfInBounds_toArray, List.set_cons_zero, List.set_cons_succ]
  refine wpAnyH_done (by kernel_rfl) ?_ _
  refine hK _ _ ?_
  go_wp2
  have X2 : Has v2.drew w.heap.size 32 #[.int .i64 (lb : Int), .int .u64 (txn : Int), .int .i64 (rt : Int), .int .i64 (ls : Int), .int .i64 (hg : Int)] := X0
  replace X0 := X2
  have B2 : Below w.heap.size w v2.drew := B0.drew
  replace B0 := B2
  clear X2 B2
  rename_i K hK
  refine wp_held (fun w' => Has w' w.heap.size 32 #[.int .i64 (lb : Int), .int .u64 (txn : Int), .int .i64 (rt : Int), .int .i64 (ls : Int), .int .i64 (hg : Int)]) K hmx ?_ (fun _ _ h => h)
  refine wpAnyH_take (i := 0) (v := .string (((⟨#[109, 101, 116, 97]⟩ : ByteArray) ++ k1) ++ k2)) (lit rfl) (by kernel_rfl) (by kernel_rfl) (by kernel_rfl) (fun _ _ _ h => h) (Or.inl ⟨by rfl, ?_⟩) X0 ?_
  · rintro w6 s1
    go_simp
  simp only [Act.put, List.setIfInBounds_toArray, List.set_cons_zero, List.set_cons_succ]
  refine wpAnyH_take (i := 1) (v := .pointer (some ⟨w.heap.size, 2, none⟩)) (lit rfl) (by kernel_rfl) (by kernel_rfl) (by kernel_rfl) (fun _ _ _ h => h) (Or.inl ⟨by rfl, ?_⟩) X0 ?_
  · rintro w6 s1
    go_simp
  simp only [Act.put, List.setIfInBounds_toArray, List.set_cons_zero, List.set_cons_succ]
  refine wpAnyH_take (i := 2) (v := .int .i64 (rt : Int)) (lit rfl) (by kernel_rfl) (by kernel_rfl) (by kernel_rfl) (fun _ _ _ h => h) (Or.inl ⟨by rfl, ?_⟩) X0 ?_
  · rintro w6 s1
    have d0 := s1.cell 2
    go_simp
  simp only [Act.put, List.setIfInBounds_toArray, List.set_cons_zero, List.set_cons_succ]
  refine wpAnyH_take (i := 3) (v := .int .u64 (rt : Int)) (lit rfl) (by kernel_rfl) (by kernel_rfl) (by kernel_rfl) (fun _ _ _ h => h) (Or.inl ⟨by rfl, ?_⟩) X0 ?_
  · rintro w6 s1
    go_simp
  simp only [Act.put, List.setIfInBounds_toArray, List.set_cons_zero, List.set_cons_succ]
  refine wpAnyH_take (i := 5) (v := .pointer (some ⟨w.heap.size, 3, none⟩)) (lit rfl) (by kernel_rfl) (by kernel_rfl) (by kernel_rfl) (fun _ _ _ h => h) (Or.inl ⟨by rfl, ?_⟩) X0 ?_
  · rintro w6 s1
    go_simp
  simp only [Act.put, List.setIfInBounds_toArray, List.set_cons_zero, List.set_cons_succ]
  refine wpAnyH_take (i := 6) (v := .int .i64 (ls : Int)) (lit rfl) (by kernel_rfl) (by kernel_rfl) (by kernel_rfl) (fun _ _ _ h => h) (Or.inl ⟨by rfl, ?_⟩) X0 ?_
  · rintro w6 s1
    have d0 := s1.cell 3
    go_simp
  simp only [Act.put, List.setIfInBounds_toArray, List.set_cons_zero, List.set_cons_succ]
  refine wpAnyH_take (i := 7) (v := .int .u64 (ls : Int)) (lit rfl) (by kernel_rfl) (by kernel_rfl) (by kernel_rfl) (fun _ _ _ h => h) (Or.inl ⟨by rfl, ?_⟩) X0 ?_
  · rintro w6 s1
    go_simp
  simp only [Act.put, List.setIfInBounds_toArray, List.set_cons_zero, List.set_cons_succ]
  refine wpAnyH_take (i := 10) (v := .pointer (some ⟨w.heap.size, 4, none⟩)) (lit rfl) (by kernel_rfl) (by kernel_rfl) (by kernel_rfl) (fun _ _ _ h => h) (Or.inl ⟨by rfl, ?_⟩) X0 ?_
  · rintro w6 s1
    go_simp
  simp only [Act.put, List.setIfInBounds_toArray, List.set_cons_zero, List.set_cons_succ]
  refine wpAnyH_take (i := 11) (v := .int .i64 (hg : Int)) (lit rfl) (by kernel_rfl) (by kernel_rfl) (by kernel_rfl) (fun _ _ _ h => h) (Or.inl ⟨by rfl, ?_⟩) X0 ?_
  · rintro w6 s1
    have d0 := s1.cell 4
    go_simp
  simp only [Act.put, List.setIfInBounds_toArray, List.set_cons_zero, List.set_cons_succ]
  refine wpAnyH_take (i := 12) (v := .int .u64 (hg : Int)) (lit rfl) (by kernel_rfl) (by kernel_rfl) (by kernel_rfl) (fun _ _ _ h => h) (Or.inl ⟨by rfl, ?_⟩) X0 ?_
  · rintro w6 s1
    go_simp
  simp only [Act.put, List.setIfInBounds_toArray, List.set_cons_zero, List.set_cons_succ]
  refine wpAnyH_ready (rs := [4]) (by kernel_rfl) (by simp) ?_
  refine AllReadyH.cons (lit rfl) (fun K5 hK5 => ?_) AllReadyH.nil
  refine step_open rfl ?_
  go_simp
  go_at_call 24
  (with_reducible refine (N3.out _).mono ?_)
  rintro q3 v3 ⟨rfl, b1⟩
  replace X0 := X0.below b1 X0.lt
  replace B0 := below_step B0 b1
  clear b1
  refine hK5.out _ _ X0 (fun _ => ?_)
  clear hK5 K5
  refine wpAnyH_ready (rs := [8]) (by kernel_rfl) (by simp) ?_
  refine AllReadyH.cons (lit rfl) (fun K5 hK5 => ?_) AllReadyH.nil
  refine step_open rfl ?_
  go_simp
  go_at_call 24
  (with_reducible refine (N4.out _).mono ?_)
  rintro q4 v4 ⟨rfl, b1⟩
  replace X0 := X0.below b1 X0.lt
  replace B0 := below_step B0 b1
  clear b1
  refine hK5.out _ _ X0 (fun _ => ?_)
  clear hK5 K5
  refine wpAnyH_take (i := 9) (v := .string (k3 ++ k4)) (lit rfl) (by kernel_rfl) (by kernel_rfl) (by kernel_rfl) (fun _ _ _ h => h) (Or.inl ⟨by rfl, ?_⟩) X0 ?_
  · rintro w6 s1
    go_simp
    omega
  simp only [Act.put, List.setIfInBounds_toArray, List.set_cons_zero, List.set_cons_succ]
  refine wpAnyH_ready (rs := [13]) (by kernel_rfl) (by simp) ?_
  refine AllReadyH.cons (lit rfl) (fun K5 hK5 => ?_) AllReadyH.nil
  refine step_open rfl ?_
  go_simp
  go_at_call 24
  (with_reducible refine (N5.out _).mono ?_)
  rintro q5 v5 ⟨rfl, b1⟩
  replace X0 := X0.below b1 X0.lt
  replace B0 := below_step B0 b1
  clear b1
  refine hK5.out _ _ X0 (fun _ => ?_)
  clear hK5 K5
  refine wpAnyH_take (i := 14) (v := .string ((k3 ++ k4) ++ k5)) (lit rfl) (by kernel_rfl) (by kernel_rfl) (by kernel_rfl) (fun _ _ _ h => h) (Or.inl ⟨by rfl, ?_⟩) X0 ?_
  · rintro w6 s1
    go_simp
    omega
  simp only [Act.put, List.setIfInBounds_toArray, List.set_cons_zero, List.set_cons_succ]
  refine wpAnyH_take (i := 15) (v := .string ((((⟨#[109, 101, 116, 97]⟩ : ByteArray) ++ k1) ++ k2) ++ ((k3 ++ k4) ++ k5))) (lit rfl) (by kernel_rfl) (by kernel_rfl) (by kernel_rfl) (fun _ _ _ h => h) (Or.inl ⟨by rfl, ?_⟩) X0 ?_
  · rintro w6 s1
    go_simp
    omega
  simp only [Act.put, List.setIfInBounds_toArray, List.set_cons_zero, List.set_cons_succ]
  refine wpAnyH_take (i := 16) (v := .string ((((⟨#[109, 101, 116, 97]⟩ : ByteArray) ++ k1) ++ k2) ++ ((k3 ++ k4) ++ k5))) (lit rfl) (by kernel_rfl) (by kernel_rfl) (by kernel_rfl) (fun _ _ _ h => h) (Or.inl ⟨by rfl, ?_⟩) X0 ?_
  · rintro w6 s1
    go_simp
  simp only [Act.put, List.setIfInBounds_toArray, List.set_cons_zero, List.set_cons_succ]
  refine wpAnyH_done (by kernel_rfl) ?_ _
  refine hK _ _ ?_
  rw [HST.out]
  obtain ⟨z1, hz1⟩ : ∃ x, v5.alloc (.cells #[.string ⟨cb.toArray⟩] 9) = x := ⟨_, rfl⟩
  have bz : Below v5.heap.size v5 z1 := hz1 ▸ (Below.refl _ v5).alloc (Nat.le_refl _) _
  have TX : Hid (TxtA z1 (some ⟨v5.heap.size, 0, none⟩) 1 [cb]) := Lib.hid ⟨rfl, fun _ => ⟨v5.heap.size, 0, rfl, fun j u hj => by rw [← hz1, (Has.made v5 9 #[.string ⟨cb.toArray⟩]).cell, Nat.zero_add]; simpa [cstV] using hj⟩⟩
  have B9 := Lib.hid (below_step B0 bz)
  clear X0 B0 bz
  go_wp2_with (go_at_call 25; (try rw [hz1]); (with_reducible refine (HPK.out _ _ _ _ TX.out).mono ?_); rintro r3 w3 ⟨rfl, b3⟩; have B3 := Lib.hid (below_step B9.out b3); clear b3)
  go_ret2
  exact ⟨rfl, B3.out⟩
theorem r10Put_yes (m : Mt) (w : World) (hc : checkM m) (htx : m.txn < 18446744073709551616) : Calls Tryd.prog 10 #[mtV m] w (RPackEnd (pageM m) 0 w) := by
  obtain ⟨a0, a1, a2, a3, a4, a5, a6, a7, a8⟩ := checkM_few hc
  obtain ⟨label, txn, root, list, high⟩ := m
  simp only at a0 a1 a2 a3 a4 a5 a6 a7 a8 htx
  obtain ⟨lb, rfl⟩ : ∃ x : Nat, label = (x : Int) := ⟨label.toNat, by omega⟩
  obtain ⟨rt, rfl⟩ : ∃ x : Nat, root = (x : Int) := ⟨root.toNat, by omega⟩
  obtain ⟨ls, rfl⟩ : ∃ x : Nat, list = (x : Int) := ⟨list.toNat, by omega⟩
  obtain ⟨hg, rfl⟩ : ∃ x : Nat, high = (x : Int) := ⟨high.toNat, by omega⟩
  exact r10Put_nat lb txn rt ls hg w hc htx
end Go.Proofs.YtpikcodnonodlaaDoor
end

section
namespace Go.Proofs.YtpikcodnonodlaaDoor
open Go.RowKit
set_option linter.unusedVariables false

theorem mStand_any (p h : Int) (w : World) : Calls Tryd.prog 44 #[.int .i64 p, .int .i64 h] w fun e w' => e = .returned (.bool (decide (placeM p h))) ∧ w = w' := by
  by_cases h0 : p = 0
  · have hd : decide (placeM p h) = true := decide_eq_true (Or.inl h0)
    rw [hd]
    clear hd
    go_enter Tryd.func44, Tryd.ntmps44
    go_wp2
    all_goals (go_ret; exact ⟨rfl, rfl⟩)
  · have hd : decide (placeM p h) = decide (2 ≤ p ∧ p < h) := by unfold placeM; simp [h0]
    rw [hd]
    by_cases h2 : 2 ≤ p
    · rw [show decide (2 ≤ p ∧ p < h) = decide (p < h) by simp [h2]]
      clear hd
      go_enter Tryd.func44, Tryd.ntmps44
      go_wp2
      all_goals (go_ret; exact ⟨by simp [h0], rfl⟩)
    · rw [show decide (2 ≤ p ∧ p < h) = false from decide_eq_false (fun hh => h2 hh.1)]
      clear hd
      go_enter Tryd.func44, Tryd.ntmps44
      go_wp2
      all_goals (go_ret; exact ⟨by simp [h0], rfl⟩)

def condB (k : Nat) (m : Mt) : Bool :=
  match k with
  | 0 => decide (0 ≤ m.label ∧ m.label < 64)
  | 1 => decide (0 < m.txn)
  | 2 => decide (2 ≤ m.high ∧ m.high ≤ 1000)
  | 3 => decide (placeM m.root m.high)
  | 4 => decide (placeM m.list m.high)
  | _ => decide (m.root ≠ m.list ∨ m.root = 0)
theorem condB_all (m : Mt) : checkM m ↔ ∀ k, k < 6 → condB k m = true := by
  constructor
  · rintro ⟨h1, h2, h3, h4, h5, h6, h7, h8⟩ k hk
    rcases k with _ | _ | _ | _ | _ | k
    · exact decide_eq_true ⟨h1, h2⟩
    · exact decide_eq_true h3
    · exact decide_eq_true ⟨h4, h5⟩
    · exact decide_eq_true h6
    · exact decide_eq_true h7
    · exact decide_eq_true h8
  · intro h
    have h1 := of_decide_eq_true (h 0 (by omega))
    have h2 := of_decide_eq_true (h 1 (by omega))
    have h3 := of_decide_eq_true (h 2 (by omega))
    have h4 := of_decide_eq_true (h 3 (by omega))
    have h5 := of_decide_eq_true (h 4 (by omega))
    have h6 := of_decide_eq_true (h 5 (by omega))
    exact ⟨h1.1, h1.2, h2, h3.1, h3.2, h4, h5, h6⟩
theorem mbox (w : World) (m : Mt) : ∃ W, w.alloc (.cells (mtC m) 24) = W ∧ Below w.heap.size w W ∧ Has W w.heap.size 24 (mtC m) := ⟨_, rfl, (Below.refl _ w).alloc (Nat.le_refl _) _, Has.made w _ _⟩
set_option maxHeartbeats 4000000 in
theorem mcond1_any (m : Mt) (w : World) : Calls Tryd.prog 40 #[mtV m] w fun e w' => e = .returned (.bool (condB 0 m)) ∧ Below w.heap.size w w' := by
  obtain ⟨label, txn, root, list, high⟩ := m
  obtain ⟨W, hW, hb, hh⟩ := mbox w ⟨label, txn, root, list, high⟩
  unfold condB
  simp only [mtV, mtC] at hW hh ⊢
  have c0 := hh.cell 0
  have HB := Lib.hid hb
  clear hb hh
  go_enter Tryd.func40, Tryd.ntmps40
  go_wp2
  all_goals
    go_ret
    refine ⟨?_, HB.out⟩
    congr 2
    all_goals first | rfl | (simp_all; done) | (simp_all; omega)
set_option maxHeartbeats 4000000 in
theorem mcond2_any (m : Mt) (w : World) : Calls Tryd.prog 41 #[mtV m] w fun e w' => e = .returned (.bool (condB 1 m)) ∧ Below w.heap.size w w' := by
  obtain ⟨label, txn, root, list, high⟩ := m
  obtain ⟨W, hW, hb, hh⟩ := mbox w ⟨label, txn, root, list, high⟩
  unfold condB
  simp only [mtV, mtC] at hW hh ⊢
  have c1 := hh.cell 1
  have HB := Lib.hid hb
  clear hb hh
  go_enter Tryd.func41, Tryd.ntmps41
  go_wp2
  all_goals
    go_ret
    refine ⟨?_, HB.out⟩
    congr 2
    all_goals first | rfl | (simp_all; done) | (simp_all; omega)
set_option maxHeartbeats 4000000 in
theorem mcond3_any (m : Mt) (w : World) : Calls Tryd.prog 42 #[mtV m] w fun e w' => e = .returned (.bool (condB 2 m)) ∧ Below w.heap.size w w' := by
  obtain ⟨label, txn, root, list, high⟩ := m
  obtain ⟨W, hW, hb, hh⟩ := mbox w ⟨label, txn, root, list, high⟩
  unfold condB
  simp only [mtV, mtC] at hW hh ⊢
  have c4 := hh.cell 4
  have HB := Lib.hid hb
  clear hb hh
  go_enter Tryd.func42, Tryd.ntmps42
  go_wp2
  all_goals
    go_ret
    refine ⟨?_, HB.out⟩
    congr 2
    all_goals first | rfl | (simp_all; done) | (simp_all; omega)
set_option maxHeartbeats 4000000 in
theorem mcond4_any (m : Mt) (w : World) : Calls Tryd.prog 43 #[mtV m] w fun e w' => e = .returned (.bool (condB 3 m)) ∧ Below w.heap.size w w' := by
  obtain ⟨label, txn, root, list, high⟩ := m
  obtain ⟨W, hW, hb, hh⟩ := mbox w ⟨label, txn, root, list, high⟩
  unfold condB
  simp only [mtV, mtC] at hW hh ⊢
  have c2 := hh.cell 2
  have c4 := hh.cell 4
  have HB := Lib.hid hb
  clear hb hh
  go_enter Tryd.func43, Tryd.ntmps43
  go_wp2_with (go_at_call 44; (with_reducible refine (mStand_any _ _ _).mono ?_); rintro r1 w1 ⟨rfl, rfl⟩)
  all_goals
    go_ret
    refine ⟨?_, HB.out⟩
    congr 2
    all_goals first | rfl | (simp_all; done) | (simp_all; omega)
set_option maxHeartbeats 4000000 in
theorem mcond5_any (m : Mt) (w : World) : Calls Tryd.prog 45 #[mtV m] w fun e w' => e = .returned (.bool (condB 4 m)) ∧ Below w.heap.size w w' := by
  obtain ⟨label, txn, root, list, high⟩ := m
  obtain ⟨W, hW, hb, hh⟩ := mbox w ⟨label, txn, root, list, high⟩
  unfold condB
  simp only [mtV, mtC] at hW hh ⊢
  have c3 := hh.cell 3
  have c4 := hh.cell 4
  have HB := Lib.hid hb
  clear hb hh
  go_enter Tryd.func45, Tryd.ntmps45
  go_wp2_with (go_at_call 44; (with_reducible refine (mStand_any _ _ _).mono ?_); rintro r1 w1 ⟨rfl, rfl⟩)
  all_goals
    go_ret
    refine ⟨?_, HB.out⟩
    congr 2
    all_goals first | rfl | (simp_all; done) | (simp_all; omega)
set_option maxHeartbeats 4000000 in
theorem mcond6_any (m : Mt) (w : World) : Calls Tryd.prog 46 #[mtV m] w fun e w' => e = .returned (.bool (condB 5 m)) ∧ Below w.heap.size w w' := by
  obtain ⟨label, txn, root, list, high⟩ := m
  obtain ⟨W, hW, hb, hh⟩ := mbox w ⟨label, txn, root, list, high⟩
  unfold condB
  simp only [mtV, mtC] at hW hh ⊢
  have c2 := hh.cell 2
  have c3 := hh.cell 3
  have HB := Lib.hid hb
  clear hb hh
  go_enter Tryd.func46, Tryd.ntmps46
  go_wp2
  all_goals
    go_ret
    refine ⟨?_, HB.out⟩
    congr 2
    clear hW HB
    by_cases h1 : root = list <;> by_cases h2 : root = 0 <;> simp_all
def condL : Array Value := #[.agg #[.func (.func 40) #[] #[]], .agg #[.func (.func 41) #[] #[]], .agg #[.func (.func 42) #[] #[]], .agg #[.func (.func 43) #[] #[]], .agg #[.func (.func 45) #[] #[]], .agg #[.func (.func 46) #[] #[]]]
def condC : Array Value := #[.func (.func 40) #[] #[], .func (.func 41) #[] #[], .func (.func 42) #[] #[], .func (.func 43) #[] #[], .func (.func 45) #[] #[], .func (.func 46) #[] #[]]
theorem mconds_any (w : World) : Calls Tryd.prog 26 #[] w fun e w' => e = .returned (.slice (some ⟨w.heap.size, 0, none⟩) 6 6) ∧ Has w' w.heap.size 60 condC ∧ Below w.heap.size w w' := by
  go_enter Tryd.func26, Tryd.ntmps26
  go_wp2
  go_ret
  exact ⟨rfl, Has.made w 60 condC, (Below.refl _ w).alloc (Nat.le_refl _) _⟩
end Go.Proofs.YtpikcodnonodlaaDoor
end
