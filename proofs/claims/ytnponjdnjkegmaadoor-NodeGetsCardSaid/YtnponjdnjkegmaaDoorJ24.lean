import Derived.Test.YtnponjdnjkegmaaDoorJ18
import Derived.Lib.ConvBytes
import Derived.Test.YtnponjdnjkegmaaDoorJ02
import Derived.Test.YtnponjdnjkegmaaDoorJ03
import Derived.Deep.Slices
import Derived.SliceStrings
import Derived.SizedLaws
/- Of a claim's texts, joined: NoGets Argt. No statement but in the last. -/
section
namespace Go.Proofs.YtnponjdnjkegmaaDoor
open Go.RowKit
set_option linter.unusedVariables false

theorem conv_arg8 (w : World) (l : List UInt8) (hl : l.length ≤ 1000000) : ∃ c W, (convert 9 31 (.string ⟨l.toArray⟩)).run Tryd.prog w = .ok (.slice (some ⟨w.heap.size, 0, none⟩) l.length c) W ∧ Arg W (some ⟨w.heap.size, 0, none⟩) l.length c l ∧ Below w.heap.size w W := by
  have h := Lib.run_convert_string_bytes (P := Tryd.prog) w 9 31 5 ⟨l.toArray⟩ Tryd.underlying9 Tryd.underlying31 Tryd.underlying5
  rw [size_list] at h
  refine ⟨_, _, h, ⟨rfl, fun hx => ⟨w.heap.size, 0, rfl, fun j u hj => ?_⟩, ?_, ?_, ?_, fun h => by cases h⟩, ?_⟩
  · have hjl := (List.getElem?_eq_some_iff.1 hj).1
    rw [List.length_map] at hjl
    rw [Nat.zero_add, Lib.bytesWorld_cell w 5 ⟨l.toArray⟩ j (by rw [size_list]; exact hjl), ← hj]
    simp [List.getD, hjl, byteV]
  · intro _ a ha
    injection ha with ha
    subst ha
    rw [Lib.bytesWorld_size]
    exact Nat.lt_succ_self _
  · exact grownCap_ge w _ 0 5
  · exact grownCap_le_maxLen w _ 0 5 (by unfold maxLen; omega)
  · exact ⟨rfl, rfl, rfl, by rw [Lib.bytesWorld_size]; omega, fun i hi => Lib.bytesWorld_at_old w 5 ⟨l.toArray⟩ i hi⟩
theorem getN_short (b : List UInt8) : (getN b).2.1.length ≤ 122 := by
  by_cases he : (unpN b).2.2 = 0
  · obtain ⟨_, _, _, _, hn⟩ := unpN_ok he
    unfold getN
    simp only
    split
    · simp
    · split
      · simp
      · split
        · simpa using hn
        · simp
  · rw [getN_er he]; simp
theorem r7Size_big (A : Option Addr) (n c : Nat) (l : List (List UInt8)) (w : World) (h : TxtA w A n l) (hn : n ≤ 60) (hs : cSz l ≤ 1152921504606846976) :
    Calls Tryd.prog 31 #[.slice A n c] w fun e w' => e = .returned (.int .i64 (cSz l : Int)) ∧ w = w' := by
  have HA := Lib.hid h
  have HL := Lib.hid h.len
  clear h
  go_enter Tryd.func31, Tryd.ntmps31
  go_wp2
  go_loop [3, 4] (fun s i => ∃ k : Nat, k ≤ n ∧ i = .int .i64 k ∧ s = .int .i64 (cSz (l.take k) : Int)) (fun _ i => n - (intOf i).toNat)
  case atStart => exact ⟨0, Nat.zero_le _, rfl, rfl⟩
  case round =>
    obtain ⟨k, hk, rfl, rfl⟩ := hrel
    by_cases hlt : k < n
    · have hkl : k < l.length := by rw [← HL.out]; exact hlt
      have ht := cSz_take l (k + 1)
      have hm := cSz_more (List.getElem?_eq_getElem hkl)
      obtain ⟨g, off, rfl, hc⟩ := HA.out.at hkl
      generalize l[k] = y at *
      have hz : (⟨y.toArray⟩ : ByteArray).size = y.length := size_list y
      have HS := Lib.hid hm
      have hb : cSz (l.take k) + y.length + 1 ≤ 2305843009213693952 := by omega
      generalize cSz (l.take k) = x at *
      obtain ⟨sz, hsz⟩ : ∃ z : ByteArray, (⟨y.toArray⟩ : ByteArray) = z := ⟨_, rfl⟩
      rw [hsz] at hc hz
      have HZ := Lib.hid hz
      have hb2 : x + sz.size + 1 ≤ 2305843009213693952 := by omega
      clear hm ht hkl hsz hz hb
      go_wp2
      go_round
      case rel => exact ⟨k + 1, by omega, by go_num, by rw [HS.out, ← HZ.out]; go_num⟩
      case measure => simp [intOf]; omega
    · obtain rfl : k = n := by omega
      have htk : l.take k = l := List.take_of_length_le (by rw [← HL.out]; exact Nat.le_refl _)
      rw [htk]
      go_wp2
      go_ret
      exact ⟨rfl, rfl⟩
theorem r7Pack_big (kind : UInt8) (A : Option Addr) (n c : Nat) (l : List (List UInt8)) (w : World) (h : TxtA w A n l) (hn60 : n ≤ 60) (hs : cSz l ≤ 1152921504606846976) (hn : ¬ cFits kind l) :
    Calls Tryd.prog 19 #[.int .u8 (kind.toNat : Int), .slice A n c] w (RPackEnd [] 1 w) := by
  have HS := Lib.hid (r7Size_big A n c l w h hn60 hs)
  by_cases hk : kind = 0
  · subst hk
    go_enter Tryd.func19, Tryd.ntmps19
    go_wp2
    go_ret2
    exact ⟨rfl, Below.refl _ _⟩
  · have hk0 : ((kind.toNat : Int) == 0) = false := beq_false_of_ne (fun e => hk (UInt8.toNat_inj.1 (by simpa using e)))
    have hz : 122 < cSz l := by
      unfold cFits at hn
      have : ¬ cSz l ≤ 122 := fun e => hn ⟨hk, e⟩
      omega
    clear hn h hs
    have e2 : decide (122 < (cSz l : Int)) = true := by simp; omega
    go_enter Tryd.func19, Tryd.ntmps19
    go_wp2_with (go_at_call 31; refine HS.out.mono ?_; rintro e w1 ⟨rfl, rfl⟩)
    go_ret2
    exact ⟨rfl, Below.refl _ _⟩
theorem cSz_big (l : List (List UInt8)) (hn : l.length ≤ 60) (h : ∀ s ∈ l, s.length ≤ 140737488351232) : cSz l ≤ 1152921504606846976 := by
  have := cSz_few l 60 140737488351232 hn h
  omega

theorem walkNoGets_no (A B : Option Addr) (n c : Nat) (y : UInt8) (m d : Nat) (l : List UInt8) (ls : List (List UInt8)) (w : World) (ht : Tab w) (h : Arg w A n c l) (k : TxtA w B m ls ∧ m ≤ d ∧ d ≤ maxLen ∧ ∀ s ∈ ls, s.length ≤ 140737488351232) (hs : ¬ (n ≤ 300 ∧ m ≤ 60)) :
    Calls Tryd.prog 4 #[.slice A n c, .int .u8 (y.toNat : Int), .slice B m d] w fun e w' => e = .returned (.bool true) ∧ Below w.heap.size w w' := by
  have HAW := Lib.hid (awake08_any w ht)
  have hcm := h.most
  have hrm := h.room
  have hmd := k.2.1
  have hdm := k.2.2.1
  unfold maxLen at hcm hdm
  clear ht h k
  by_cases h1 : n ≤ 300
  · have e1 : ¬ (300 : Int) < (n : Int) := by omega
    have e2 : (60 : Int) < (m : Int) := by omega
    clear hs
    go_enter Tryd.func4, Tryd.ntmps4
    go_wp2_with (go_at_call 8; (with_reducible refine HAW.out.mono ?_); rintro e w0 ⟨rfl, h0⟩; have B0 := Lib.hid h0; clear h0)
    go_ret
    exact ⟨rfl, B0.out⟩
  · have e1 : (300 : Int) < (n : Int) := by omega
    clear hs
    go_enter Tryd.func4, Tryd.ntmps4
    go_wp2_with (go_at_call 8; (with_reducible refine HAW.out.mono ?_); rintro e w0 ⟨rfl, h0⟩; have B0 := Lib.hid h0; clear h0)
    go_ret
    exact ⟨rfl, B0.out⟩

set_option maxRecDepth 100000 in
set_option maxHeartbeats 8000000 in
theorem walkNoGets_fit (A B : Option Addr) (n c : Nat) (y : UInt8) (m d : Nat) (l : List UInt8) (ls : List (List UInt8)) (w : World) (ht : Tab w) (h : Arg w A n c l) (k : TxtA w B m ls ∧ m ≤ d ∧ d ≤ maxLen ∧ ∀ s ∈ ls, s.length ≤ 140737488351232) (hn : n ≤ 300) (hm : m ≤ 60) (hy : cFits y ls) :
    Calls Tryd.prog 4 #[.slice A n c, .int .u8 (y.toNat : Int), .slice B m d] w fun e w' => e = .returned (.bool true) ∧ Below w.heap.size w w' := by
  have hmx : Tryd.prog.follows .mixedOrders = true := by kernel_rfl
  have hzn := zero_node
  have hzr := zero_rnode
  have HAW := Lib.hid (awake08_any w ht)
  have e1 : ¬ (300 : Int) < (n : Int) := by omega
  have e2 : ¬ (60 : Int) < (m : Int) := by omega
  have hl : l.length ≤ 300 := by rw [← h.len]; exact hn
  have HST := Lib.hid (fun w1 (hb : Below w.heap.size w w1) => run_string_of (P := Tryd.prog) w1 31 9 5 Tryd.underlying31 Tryd.underlying5 Tryd.underlying9 (cap := c) h.len (h.below hb).reads)
  have HG2 := Lib.hid (fun A n c w1 (hb1 : Below w.heap.size w w1) (ha : Arg w1 A n c l) => nGet_any A n c l w1 (ht.below hb1) ha)
  have HR2 : Hid (∀ w1, Calls Tryd.prog 21 #[.string ⟨l.toArray⟩] w1 (GetN (getN l) w1)) := Lib.hid (fun w1 => r8Get_any ⟨l.toArray⟩ w1 (by rw [size_list]; omega))
  have hsh2 := getN_short (l)
  obtain ⟨leaf2, nl2, er2, hg2⟩ : ∃ leaf nl er, getN (l) = (leaf, nl, er) := ⟨_, _, _, rfl⟩
  rw [hg2] at HG2 HR2 hsh2
  simp only at hsh2
  unfold GetN at HG2 HR2
  have HPQ2 := Lib.hid (fun A c w1 (h1 : NodA w1 A nl2.length c nl2) => plain08_any leaf2 A nl2.length c nl2 w1 h1 (by omega))
  have HSY2 := Lib.hid (fun A B c d w1 (h1 : NodA w1 A nl2.length c nl2) (h2 : NodA w1 B nl2.length d nl2) => r8Same_yes leaf2 A B nl2.length c d nl2 w1 h1 h2 (by omega))
  clear hg2
  have hpl := cPage_len y ls hy.2
  have HPK : Hid (∀ w1, Below w.heap.size w w1 → Calls Tryd.prog 19 #[.int .u8 (y.toNat : Int), .slice B m d] w1 (RPackEnd (cPage y ls) 0 w1)) := Lib.hid (fun w1 hb => r7Pack_yes y B m d ls w1 (k.1.below hb) hy)
  generalize cPage y ls = pg at *
  have HCV := Lib.hid (fun w1 => conv_arg8 w1 pg (by omega))
  have HG1 := Lib.hid (fun A n c w1 (hb1 : Below w.heap.size w w1) (ha : Arg w1 A n c pg) => nGet_any A n c pg w1 (ht.below hb1) ha)
  have HR1 : Hid (∀ w1, Calls Tryd.prog 21 #[.string ⟨pg.toArray⟩] w1 (GetN (getN pg) w1)) := Lib.hid (fun w1 => r8Get_any ⟨pg.toArray⟩ w1 (by rw [size_list]; omega))
  have hsh1 := getN_short (pg)
  obtain ⟨leaf1, nl1, er1, hg1⟩ : ∃ leaf nl er, getN (pg) = (leaf, nl, er) := ⟨_, _, _, rfl⟩
  rw [hg1] at HG1 HR1 hsh1
  simp only at hsh1
  unfold GetN at HG1 HR1
  have HPQ1 := Lib.hid (fun A c w1 (h1 : NodA w1 A nl1.length c nl1) => plain08_any leaf1 A nl1.length c nl1 w1 h1 (by omega))
  have HSY1 := Lib.hid (fun A B c d w1 (h1 : NodA w1 A nl1.length c nl1) (h2 : NodA w1 B nl1.length d nl1) => r8Same_yes leaf1 A B nl1.length c d nl1 w1 h1 h2 (by omega))
  clear hg1
  clear hpl
  unfold RPackEnd at HPK
  have HA := Lib.hid h
  clear ht h k hy hn hm
  go_enter Tryd.func4, Tryd.ntmps4
  go_wp2_with (first
    | (go_at_call 8; (with_reducible refine HAW.out.mono ?_); rintro e w0 ⟨rfl, h0⟩; have B0 := Lib.hid h0; clear h0)
    | (go_at_call 19; (with_reducible refine (HPK.out _ B0.out).mono ?_); rintro e w1 ⟨rfl, h1⟩; have B1 := Lib.hid (below_step B0.out h1); obtain ⟨cc, W5, hcv, hca, hcb⟩ := HCV.out w1; have R1 := Lib.hid hca; have B1a := Lib.hid (below_step B1.out hcb); clear h1 hca hcb)
    | (go_at_call 20; (with_reducible refine (HG1.out _ _ _ _ B1a.out R1.out).mono ?_); rintro e w11 ⟨A11, n11, c11, rfl, d1, h1⟩; have hn1 : n11 = nl1.length := d1.len; subst hn1; obtain ⟨V1, hV1⟩ : ∃ V, w11.alloc (.cells #[.bool leaf1, .slice A11 nl1.length c11] 24) = V := ⟨_, rfl⟩; have BV1 : Below w11.heap.size w11 V1 := hV1 ▸ (Below.refl _ _).alloc (Nat.le_refl _) _; have N1 := Lib.hid (show Has V1 w11.heap.size 24 #[.bool leaf1, .slice A11 nl1.length c11] from hV1 ▸ Has.made w11 _ _); have D1 := Lib.hid (d1.below BV1); have B1b := Lib.hid (below_step B1a.out (below_step h1 BV1)); clear h1 d1 BV1; subst hV1)
    | (go_at_call 21; (with_reducible refine (HR1.out _).mono ?_); rintro e w12 ⟨A12, n12, c12, rfl, d1, h1⟩; have hn1 : n12 = nl1.length := d1.len; subst hn1; obtain ⟨V1, hV1⟩ : ∃ V, w12.alloc (.cells #[.bool leaf1, .slice A12 nl1.length c12] 29) = V := ⟨_, rfl⟩; have BV1 : Below w12.heap.size w12 V1 := hV1 ▸ (Below.refl _ _).alloc (Nat.le_refl _) _; have M1 := Lib.hid (show Has V1 w12.heap.size 29 #[.bool leaf1, .slice A12 nl1.length c12] from hV1 ▸ Has.made w12 _ _); have E1 := Lib.hid (d1.below BV1); have N1 := Lib.hid (N1.out.below (below_step h1 BV1) N1.out.lt); have D1 := Lib.hid (D1.out.below (below_step h1 BV1)); have B1c := Lib.hid (below_step B1b.out (below_step h1 BV1)); have HV1 := Lib.hid hV1; clear h1 d1 BV1 hV1))
  try rw [HV1.out]
  have S4 : (fun w' : World => Has w' w11.heap.size 24 #[.bool leaf1, .slice A11 nl1.length c11] ∧ Has w' w12.heap.size 29 #[.bool leaf1, .slice A12 nl1.length c12]) V1.drew := ⟨N1.out, M1.out⟩
  rename_i K hK
  refine wp_held (fun w' : World => Has w' w11.heap.size 24 #[.bool leaf1, .slice A11 nl1.length c11] ∧ Has w' w12.heap.size 29 #[.bool leaf1, .slice A12 nl1.length c12]) K hmx ?_ (fun _ _ h => h)
  refine wpAnyH_take (i := 0) (v := .int .i64 er1) rfl (by kernel_rfl) (by kernel_rfl) (by kernel_rfl) (fun _ _ _ h => h) (Or.inl ⟨by rfl, ?_⟩) S4 ?_
  · intro w6 s1
    go_simp
  simp only [Act.put, List.setIfInBounds_toArray, List.set_cons_zero, List.set_cons_succ, List.getElem_toArray, List.getElem_cons_zero]
  refine wpAnyH_take (i := 1) (v := .int .i64 er1) rfl (by kernel_rfl) (by kernel_rfl) (by kernel_rfl) (fun _ _ _ h => h) (Or.inl ⟨by rfl, ?_⟩) S4 ?_
  · intro w6 s1
    go_simp
  simp only [Act.put, List.setIfInBounds_toArray, List.set_cons_zero, List.set_cons_succ, List.getElem_toArray, List.getElem_cons_zero, List.getElem_cons_succ]
  refine wpAnyH_take (i := 2) (v := .bool false) rfl (by kernel_rfl) (by kernel_rfl) (by kernel_rfl) (fun _ _ _ h => h) (Or.inl ⟨by rfl, ?_⟩) S4 ?_
  · intro w6 s1
    go_simp
  simp only [Act.put, List.setIfInBounds_toArray, List.set_cons_zero, List.set_cons_succ, List.getElem_toArray, List.getElem_cons_zero, List.getElem_cons_succ]
  refine wpAnyH_take (i := 3) (v := .bool false) rfl (by kernel_rfl) (by kernel_rfl) (by kernel_rfl) (fun _ _ _ h => h) (Or.inl ⟨by rfl, ?_⟩) S4 ?_
  · intro w6 s1
    go_simp
  simp only [Act.put, List.setIfInBounds_toArray, List.set_cons_zero, List.set_cons_succ, List.getElem_toArray, List.getElem_cons_zero, List.getElem_cons_succ]
  refine wpAnyH_take (i := 4) (v := .agg #[.bool leaf1, .slice A11 nl1.length c11]) rfl (by kernel_rfl) (by kernel_rfl) (by kernel_rfl) (fun _ _ _ h => h) (Or.inl ⟨by rfl, ?_⟩) S4 ?_
  · intro w6 s1
    have d0 := s1.1.cell 0
    have d1 := s1.1.cell 1
    go_simp
  simp only [Act.put, List.setIfInBounds_toArray, List.set_cons_zero, List.set_cons_succ, List.getElem_toArray, List.getElem_cons_zero, List.getElem_cons_succ]
  refine wpAnyH_take (i := 6) (v := .agg #[.bool leaf1, .slice A12 nl1.length c12]) rfl (by kernel_rfl) (by kernel_rfl) (by kernel_rfl) (fun _ _ _ h => h) (Or.inl ⟨by rfl, ?_⟩) S4 ?_
  · intro w6 s1
    have d0 := s1.2.cell 0
    have d1 := s1.2.cell 1
    go_simp
  simp only [Act.put, List.setIfInBounds_toArray, List.set_cons_zero, List.set_cons_succ, List.getElem_toArray, List.getElem_cons_zero, List.getElem_cons_succ]
  refine wpAnyH_ready (rs := [5]) (by kernel_rfl) (by simp) ?_
  refine AllReadyH.cons rfl (fun K5 hK5 => ?_) AllReadyH.nil
  go_simp
  go_at_call 10
  (with_reducible refine (HPQ1.out _ _ _ (D1.out.below (Below.refl _ _).drew)).mono ?_)
  rintro e5 x5 ⟨A5, c5, rfl, d5, b5⟩
  have G5 : Below V1.heap.size V1 x5 := (Below.refl _ V1).drew.trans b5
  have S5 : (fun w' : World => Has w' w11.heap.size 24 #[.bool leaf1, .slice A11 nl1.length c11] ∧ Has w' w12.heap.size 29 #[.bool leaf1, .slice A12 nl1.length c12]) x5 := ⟨N1.out.below G5 N1.out.lt, M1.out.below G5 M1.out.lt⟩
  clear b5
  refine hK5.out _ _ S5 (fun _ => ?_)
  clear hK5 K5
  refine wpAnyH_ready (rs := [7]) (by kernel_rfl) (by simp) ?_
  refine AllReadyH.cons rfl (fun K5 hK5 => ?_) AllReadyH.nil
  go_simp
  go_at_call 22
  (with_reducible refine (HSY1.out _ _ _ _ _ d5 (E1.out.below G5)).mono ?_)
  rintro e6 x6 ⟨rfl, b6⟩
  have G6 := below_step G5 b6
  have S6 : (fun w' : World => Has w' w11.heap.size 24 #[.bool leaf1, .slice A11 nl1.length c11] ∧ Has w' w12.heap.size 29 #[.bool leaf1, .slice A12 nl1.length c12]) x6 := ⟨N1.out.below G6 N1.out.lt, M1.out.below G6 M1.out.lt⟩
  clear b6
  refine hK5.out _ _ S6 (fun _ => ?_)
  clear hK5 K5
  refine wpAnyH_take (i := 8) (v := .bool false) rfl (by kernel_rfl) (by kernel_rfl) (by kernel_rfl) (fun _ _ _ h => h) (Or.inl ⟨by rfl, ?_⟩) S6 ?_
  · intro w6 s1
    go_simp
  simp only [Act.put, List.setIfInBounds_toArray, List.set_cons_zero, List.set_cons_succ, List.getElem_toArray, List.getElem_cons_zero, List.getElem_cons_succ]
  refine wpAnyH_ready (rs := [9]) (by kernel_rfl) (by simp) ?_
  refine AllReadyH.cons rfl (fun K5 hK5 => ?_) AllReadyH.nil
  go_simp
  refine hK5.out _ _ S6 (fun _ => ?_)
  clear hK5 K5
  refine wpAnyH_done (by kernel_rfl) ?_ _
  refine hK _ _ ?_
  have B2a := Lib.hid (below_step B1c.out G6)
  have R2 := Lib.hid (HA.out.below B2a.out)
  clear S5 S6 G5 G6 d5
  go_wp2_with (first
    | (go_at_call 20; (with_reducible refine (HG2.out _ _ _ _ B2a.out R2.out).mono ?_); rintro e w21 ⟨A21, n21, c21, rfl, d2, h2⟩; have hn2 : n21 = nl2.length := d2.len; subst hn2; obtain ⟨V2, hV2⟩ : ∃ V, w21.alloc (.cells #[.bool leaf2, .slice A21 nl2.length c21] 24) = V := ⟨_, rfl⟩; have BV2 : Below w21.heap.size w21 V2 := hV2 ▸ (Below.refl _ _).alloc (Nat.le_refl _) _; have N2 := Lib.hid (show Has V2 w21.heap.size 24 #[.bool leaf2, .slice A21 nl2.length c21] from hV2 ▸ Has.made w21 _ _); have D2 := Lib.hid (d2.below BV2); have B2b := Lib.hid (below_step B2a.out (below_step h2 BV2)); have hcvt := HST.out _ B2b.out; clear h2 d2 BV2; subst hV2)
    | (go_at_call 21; (with_reducible refine (HR2.out _).mono ?_); rintro e w22 ⟨A22, n22, c22, rfl, d2, h2⟩; have hn2 : n22 = nl2.length := d2.len; subst hn2; obtain ⟨V2, hV2⟩ : ∃ V, w22.alloc (.cells #[.bool leaf2, .slice A22 nl2.length c22] 29) = V := ⟨_, rfl⟩; have BV2 : Below w22.heap.size w22 V2 := hV2 ▸ (Below.refl _ _).alloc (Nat.le_refl _) _; have M2 := Lib.hid (show Has V2 w22.heap.size 29 #[.bool leaf2, .slice A22 nl2.length c22] from hV2 ▸ Has.made w22 _ _); have E2 := Lib.hid (d2.below BV2); have N2 := Lib.hid (N2.out.below (below_step h2 BV2) N2.out.lt); have D2 := Lib.hid (D2.out.below (below_step h2 BV2)); have B2c := Lib.hid (below_step B2b.out (below_step h2 BV2)); have HV2 := Lib.hid hV2; clear h2 d2 BV2 hV2))
  try rw [HV2.out]
  have S4 : (fun w' : World => Has w' w21.heap.size 24 #[.bool leaf2, .slice A21 nl2.length c21] ∧ Has w' w22.heap.size 29 #[.bool leaf2, .slice A22 nl2.length c22]) V2.drew := ⟨N2.out, M2.out⟩
  rename_i K hK
  refine wp_held (fun w' : World => Has w' w21.heap.size 24 #[.bool leaf2, .slice A21 nl2.length c21] ∧ Has w' w22.heap.size 29 #[.bool leaf2, .slice A22 nl2.length c22]) K hmx ?_ (fun _ _ h => h)
  refine wpAnyH_take (i := 0) (v := .int .i64 er2) rfl (by kernel_rfl) (by kernel_rfl) (by kernel_rfl) (fun _ _ _ h => h) (Or.inl ⟨by rfl, ?_⟩) S4 ?_
  · intro w6 s1
    go_simp
  simp only [Act.put, List.setIfInBounds_toArray, List.set_cons_zero, List.set_cons_succ, List.getElem_toArray, List.getElem_cons_zero]
  refine wpAnyH_take (i := 1) (v := .int .i64 er2) rfl (by kernel_rfl) (by kernel_rfl) (by kernel_rfl) (fun _ _ _ h => h) (Or.inl ⟨by rfl, ?_⟩) S4 ?_
  · intro w6 s1
    go_simp
  simp only [Act.put, List.setIfInBounds_toArray, List.set_cons_zero, List.set_cons_succ, List.getElem_toArray, List.getElem_cons_zero, List.getElem_cons_succ]
  refine wpAnyH_take (i := 2) (v := .bool true) rfl (by kernel_rfl) (by kernel_rfl) (by kernel_rfl) (fun _ _ _ h => h) (Or.inl ⟨by rfl, ?_⟩) S4 ?_
  · intro w6 s1
    go_simp
  simp only [Act.put, List.setIfInBounds_toArray, List.set_cons_zero, List.set_cons_succ, List.getElem_toArray, List.getElem_cons_zero, List.getElem_cons_succ]
  refine wpAnyH_take (i := 3) (v := .bool true) rfl (by kernel_rfl) (by kernel_rfl) (by kernel_rfl) (fun _ _ _ h => h) (Or.inl ⟨by rfl, ?_⟩) S4 ?_
  · intro w6 s1
    go_simp
  simp only [Act.put, List.setIfInBounds_toArray, List.set_cons_zero, List.set_cons_succ, List.getElem_toArray, List.getElem_cons_zero, List.getElem_cons_succ]
  refine wpAnyH_take (i := 4) (v := .agg #[.bool leaf2, .slice A21 nl2.length c21]) rfl (by kernel_rfl) (by kernel_rfl) (by kernel_rfl) (fun _ _ _ h => h) (Or.inl ⟨by rfl, ?_⟩) S4 ?_
  · intro w6 s1
    have d0 := s1.1.cell 0
    have d1 := s1.1.cell 1
    go_simp
  simp only [Act.put, List.setIfInBounds_toArray, List.set_cons_zero, List.set_cons_succ, List.getElem_toArray, List.getElem_cons_zero, List.getElem_cons_succ]
  refine wpAnyH_take (i := 6) (v := .agg #[.bool leaf2, .slice A22 nl2.length c22]) rfl (by kernel_rfl) (by kernel_rfl) (by kernel_rfl) (fun _ _ _ h => h) (Or.inl ⟨by rfl, ?_⟩) S4 ?_
  · intro w6 s1
    have d0 := s1.2.cell 0
    have d1 := s1.2.cell 1
    go_simp
  simp only [Act.put, List.setIfInBounds_toArray, List.set_cons_zero, List.set_cons_succ, List.getElem_toArray, List.getElem_cons_zero, List.getElem_cons_succ]
  refine wpAnyH_ready (rs := [5]) (by kernel_rfl) (by simp) ?_
  refine AllReadyH.cons rfl (fun K5 hK5 => ?_) AllReadyH.nil
  go_simp
  go_at_call 10
  (with_reducible refine (HPQ2.out _ _ _ (D2.out.below (Below.refl _ _).drew)).mono ?_)
  rintro e5 x5 ⟨A5, c5, rfl, d5, b5⟩
  have G5 : Below V2.heap.size V2 x5 := (Below.refl _ V2).drew.trans b5
  have S5 : (fun w' : World => Has w' w21.heap.size 24 #[.bool leaf2, .slice A21 nl2.length c21] ∧ Has w' w22.heap.size 29 #[.bool leaf2, .slice A22 nl2.length c22]) x5 := ⟨N2.out.below G5 N2.out.lt, M2.out.below G5 M2.out.lt⟩
  clear b5
  refine hK5.out _ _ S5 (fun _ => ?_)
  clear hK5 K5
  refine wpAnyH_ready (rs := [7]) (by kernel_rfl) (by simp) ?_
  refine AllReadyH.cons rfl (fun K5 hK5 => ?_) AllReadyH.nil
  go_simp
  go_at_call 22
  (with_reducible refine (HSY2.out _ _ _ _ _ d5 (E2.out.below G5)).mono ?_)
  rintro e6 x6 ⟨rfl, b6⟩
  have G6 := below_step G5 b6
  have S6 : (fun w' : World => Has w' w21.heap.size 24 #[.bool leaf2, .slice A21 nl2.length c21] ∧ Has w' w22.heap.size 29 #[.bool leaf2, .slice A22 nl2.length c22]) x6 := ⟨N2.out.below G6 N2.out.lt, M2.out.below G6 M2.out.lt⟩
  clear b6
  refine hK5.out _ _ S6 (fun _ => ?_)
  clear hK5 K5
  refine wpAnyH_ready (rs := [8]) (by kernel_rfl) (by simp) ?_
  refine AllReadyH.cons rfl (fun K5 hK5 => ?_) AllReadyH.nil
  go_simp
  refine hK5.out _ _ S6 (fun _ => ?_)
  clear hK5 K5
  refine wpAnyH_ready (rs := [9]) (by kernel_rfl) (by simp) ?_
  refine AllReadyH.cons rfl (fun K5 hK5 => ?_) AllReadyH.nil
  go_simp
  refine hK5.out _ _ S6 (fun _ => ?_)
  clear hK5 K5
  refine wpAnyH_done (by kernel_rfl) ?_ _
  refine hK _ _ ?_
  have BE := Lib.hid (below_step B2c.out G6)
  clear S5 S6 G5 G6 d5
  go_wp2
  go_ret
  exact ⟨rfl, BE.out⟩

set_option maxRecDepth 100000 in
set_option maxHeartbeats 8000000 in
theorem walkNoGets_big (A B : Option Addr) (n c : Nat) (y : UInt8) (m d : Nat) (l : List UInt8) (ls : List (List UInt8)) (w : World) (ht : Tab w) (h : Arg w A n c l) (k : TxtA w B m ls ∧ m ≤ d ∧ d ≤ maxLen ∧ ∀ s ∈ ls, s.length ≤ 140737488351232) (hn : n ≤ 300) (hm : m ≤ 60) (hy : ¬ cFits y ls) :
    Calls Tryd.prog 4 #[.slice A n c, .int .u8 (y.toNat : Int), .slice B m d] w fun e w' => e = .returned (.bool true) ∧ Below w.heap.size w w' := by
  have hmx : Tryd.prog.follows .mixedOrders = true := by kernel_rfl
  have hzn := zero_node
  have hzr := zero_rnode
  have HAW := Lib.hid (awake08_any w ht)
  have e1 : ¬ (300 : Int) < (n : Int) := by omega
  have e2 : ¬ (60 : Int) < (m : Int) := by omega
  have hl : l.length ≤ 300 := by rw [← h.len]; exact hn
  have HST := Lib.hid (fun w1 (hb : Below w.heap.size w w1) => run_string_of (P := Tryd.prog) w1 31 9 5 Tryd.underlying31 Tryd.underlying5 Tryd.underlying9 (cap := c) h.len (h.below hb).reads)
  have HG2 := Lib.hid (fun A n c w1 (hb1 : Below w.heap.size w w1) (ha : Arg w1 A n c l) => nGet_any A n c l w1 (ht.below hb1) ha)
  have HR2 : Hid (∀ w1, Calls Tryd.prog 21 #[.string ⟨l.toArray⟩] w1 (GetN (getN l) w1)) := Lib.hid (fun w1 => r8Get_any ⟨l.toArray⟩ w1 (by rw [size_list]; omega))
  have hsh2 := getN_short (l)
  obtain ⟨leaf2, nl2, er2, hg2⟩ : ∃ leaf nl er, getN (l) = (leaf, nl, er) := ⟨_, _, _, rfl⟩
  rw [hg2] at HG2 HR2 hsh2
  simp only at hsh2
  unfold GetN at HG2 HR2
  have HPQ2 := Lib.hid (fun A c w1 (h1 : NodA w1 A nl2.length c nl2) => plain08_any leaf2 A nl2.length c nl2 w1 h1 (by omega))
  have HSY2 := Lib.hid (fun A B c d w1 (h1 : NodA w1 A nl2.length c nl2) (h2 : NodA w1 B nl2.length d nl2) => r8Same_yes leaf2 A B nl2.length c d nl2 w1 h1 h2 (by omega))
  clear hg2
  have HPK : Hid (∀ w1, Below w.heap.size w w1 → Calls Tryd.prog 19 #[.int .u8 (y.toNat : Int), .slice B m d] w1 (RPackEnd [] 1 w1)) := Lib.hid (fun w1 hb => r7Pack_big y B m d ls w1 (k.1.below hb) hm (cSz_big ls (by rw [← k.1.len]; exact hm) k.2.2.2) hy)
  unfold RPackEnd at HPK
  have HA := Lib.hid h
  clear ht h k hy hn hm
  go_enter Tryd.func4, Tryd.ntmps4
  go_wp2_with (first
    | (go_at_call 8; (with_reducible refine HAW.out.mono ?_); rintro e w0 ⟨rfl, h0⟩; have B0 := Lib.hid h0; clear h0)
    | (go_at_call 19; (with_reducible refine (HPK.out _ B0.out).mono ?_); rintro e w1 ⟨rfl, h1⟩; have B1 := Lib.hid (below_step B0.out h1); have B2a := B1; have R2 := Lib.hid (HA.out.below B2a.out); clear h1)
    | (go_at_call 20; (with_reducible refine (HG2.out _ _ _ _ B2a.out R2.out).mono ?_); rintro e w21 ⟨A21, n21, c21, rfl, d2, h2⟩; have hn2 : n21 = nl2.length := d2.len; subst hn2; obtain ⟨V2, hV2⟩ : ∃ V, w21.alloc (.cells #[.bool leaf2, .slice A21 nl2.length c21] 24) = V := ⟨_, rfl⟩; have BV2 : Below w21.heap.size w21 V2 := hV2 ▸ (Below.refl _ _).alloc (Nat.le_refl _) _; have N2 := Lib.hid (show Has V2 w21.heap.size 24 #[.bool leaf2, .slice A21 nl2.length c21] from hV2 ▸ Has.made w21 _ _); have D2 := Lib.hid (d2.below BV2); have B2b := Lib.hid (below_step B2a.out (below_step h2 BV2)); have hcvt := HST.out _ B2b.out; clear h2 d2 BV2; subst hV2)
    | (go_at_call 21; (with_reducible refine (HR2.out _).mono ?_); rintro e w22 ⟨A22, n22, c22, rfl, d2, h2⟩; have hn2 : n22 = nl2.length := d2.len; subst hn2; obtain ⟨V2, hV2⟩ : ∃ V, w22.alloc (.cells #[.bool leaf2, .slice A22 nl2.length c22] 29) = V := ⟨_, rfl⟩; have BV2 : Below w22.heap.size w22 V2 := hV2 ▸ (Below.refl _ _).alloc (Nat.le_refl _) _; have M2 := Lib.hid (show Has V2 w22.heap.size 29 #[.bool leaf2, .slice A22 nl2.length c22] from hV2 ▸ Has.made w22 _ _); have E2 := Lib.hid (d2.below BV2); have N2 := Lib.hid (N2.out.below (below_step h2 BV2) N2.out.lt); have D2 := Lib.hid (D2.out.below (below_step h2 BV2)); have B2c := Lib.hid (below_step B2b.out (below_step h2 BV2)); have HV2 := Lib.hid hV2; clear h2 d2 BV2 hV2))
  try rw [HV2.out]
  have S4 : (fun w' : World => Has w' w21.heap.size 24 #[.bool leaf2, .slice A21 nl2.length c21] ∧ Has w' w22.heap.size 29 #[.bool leaf2, .slice A22 nl2.length c22]) V2.drew := ⟨N2.out, M2.out⟩
  rename_i K hK
  refine wp_held (fun w' : World => Has w' w21.heap.size 24 #[.bool leaf2, .slice A21 nl2.length c21] ∧ Has w' w22.heap.size 29 #[.bool leaf2, .slice A22 nl2.length c22]) K hmx ?_ (fun _ _ h => h)
  refine wpAnyH_take (i := 0) (v := .int .i64 er2) rfl (by kernel_rfl) (by kernel_rfl) (by kernel_rfl) (fun _ _ _ h => h) (Or.inl ⟨by rfl, ?_⟩) S4 ?_
  · intro w6 s1
    go_simp
  simp only [Act.put, List.setIfInBounds_toArray, List.set_cons_zero, List.set_cons_succ, List.getElem_toArray, List.getElem_cons_zero]
  refine wpAnyH_take (i := 1) (v := .int .i64 er2) rfl (by kernel_rfl) (by kernel_rfl) (by kernel_rfl) (fun _ _ _ h => h) (Or.inl ⟨by rfl, ?_⟩) S4 ?_
  · intro w6 s1
    go_simp
  simp only [Act.put, List.setIfInBounds_toArray, List.set_cons_zero, List.set_cons_succ, List.getElem_toArray, List.getElem_cons_zero, List.getElem_cons_succ]
  refine wpAnyH_take (i := 2) (v := .bool true) rfl (by kernel_rfl) (by kernel_rfl) (by kernel_rfl) (fun _ _ _ h => h) (Or.inl ⟨by rfl, ?_⟩) S4 ?_
  · intro w6 s1
    go_simp
  simp only [Act.put, List.setIfInBounds_toArray, List.set_cons_zero, List.set_cons_succ, List.getElem_toArray, List.getElem_cons_zero, List.getElem_cons_succ]
  refine wpAnyH_take (i := 3) (v := .bool true) rfl (by kernel_rfl) (by kernel_rfl) (by kernel_rfl) (fun _ _ _ h => h) (Or.inl ⟨by rfl, ?_⟩) S4 ?_
  · intro w6 s1
    go_simp
  simp only [Act.put, List.setIfInBounds_toArray, List.set_cons_zero, List.set_cons_succ, List.getElem_toArray, List.getElem_cons_zero, List.getElem_cons_succ]
  refine wpAnyH_take (i := 4) (v := .agg #[.bool leaf2, .slice A21 nl2.length c21]) rfl (by kernel_rfl) (by kernel_rfl) (by kernel_rfl) (fun _ _ _ h => h) (Or.inl ⟨by rfl, ?_⟩) S4 ?_
  · intro w6 s1
    have d0 := s1.1.cell 0
    have d1 := s1.1.cell 1
    go_simp
  simp only [Act.put, List.setIfInBounds_toArray, List.set_cons_zero, List.set_cons_succ, List.getElem_toArray, List.getElem_cons_zero, List.getElem_cons_succ]
  refine wpAnyH_take (i := 6) (v := .agg #[.bool leaf2, .slice A22 nl2.length c22]) rfl (by kernel_rfl) (by kernel_rfl) (by kernel_rfl) (fun _ _ _ h => h) (Or.inl ⟨by rfl, ?_⟩) S4 ?_
  · intro w6 s1
    have d0 := s1.2.cell 0
    have d1 := s1.2.cell 1
    go_simp
  simp only [Act.put, List.setIfInBounds_toArray, List.set_cons_zero, List.set_cons_succ, List.getElem_toArray, List.getElem_cons_zero, List.getElem_cons_succ]
  refine wpAnyH_ready (rs := [5]) (by kernel_rfl) (by simp) ?_
  refine AllReadyH.cons rfl (fun K5 hK5 => ?_) AllReadyH.nil
  go_simp
  go_at_call 10
  (with_reducible refine (HPQ2.out _ _ _ (D2.out.below (Below.refl _ _).drew)).mono ?_)
  rintro e5 x5 ⟨A5, c5, rfl, d5, b5⟩
  have G5 : Below V2.heap.size V2 x5 := (Below.refl _ V2).drew.trans b5
  have S5 : (fun w' : World => Has w' w21.heap.size 24 #[.bool leaf2, .slice A21 nl2.length c21] ∧ Has w' w22.heap.size 29 #[.bool leaf2, .slice A22 nl2.length c22]) x5 := ⟨N2.out.below G5 N2.out.lt, M2.out.below G5 M2.out.lt⟩
  clear b5
  refine hK5.out _ _ S5 (fun _ => ?_)
  clear hK5 K5
  refine wpAnyH_ready (rs := [7]) (by kernel_rfl) (by simp) ?_
  refine AllReadyH.cons rfl (fun K5 hK5 => ?_) AllReadyH.nil
  go_simp
  go_at_call 22
  (with_reducible refine (HSY2.out _ _ _ _ _ d5 (E2.out.below G5)).mono ?_)
  rintro e6 x6 ⟨rfl, b6⟩
  have G6 := below_step G5 b6
  have S6 : (fun w' : World => Has w' w21.heap.size 24 #[.bool leaf2, .slice A21 nl2.length c21] ∧ Has w' w22.heap.size 29 #[.bool leaf2, .slice A22 nl2.length c22]) x6 := ⟨N2.out.below G6 N2.out.lt, M2.out.below G6 M2.out.lt⟩
  clear b6
  refine hK5.out _ _ S6 (fun _ => ?_)
  clear hK5 K5
  refine wpAnyH_ready (rs := [8]) (by kernel_rfl) (by simp) ?_
  refine AllReadyH.cons rfl (fun K5 hK5 => ?_) AllReadyH.nil
  go_simp
  refine hK5.out _ _ S6 (fun _ => ?_)
  clear hK5 K5
  refine wpAnyH_ready (rs := [9]) (by kernel_rfl) (by simp) ?_
  refine AllReadyH.cons rfl (fun K5 hK5 => ?_) AllReadyH.nil
  go_simp
  refine hK5.out _ _ S6 (fun _ => ?_)
  clear hK5 K5
  refine wpAnyH_done (by kernel_rfl) ?_ _
  refine hK _ _ ?_
  have BE := Lib.hid (below_step B2c.out G6)
  clear S5 S6 G5 G6 d5
  go_wp2
  go_ret
  exact ⟨rfl, BE.out⟩

theorem walkNoGets (A B : Option Addr) (n c : Nat) (y : UInt8) (m d : Nat) (l : List UInt8) (ls : List (List UInt8)) (w : World) (ht : Tab w) (h : Arg w A n c l) (k : TxtA w B m ls ∧ m ≤ d ∧ d ≤ maxLen ∧ ∀ s ∈ ls, s.length ≤ 140737488351232) :
    Calls Tryd.prog 4 #[.slice A n c, .int .u8 (y.toNat : Int), .slice B m d] w fun e w' => e = .returned (.bool true) ∧ Below w.heap.size w w' := by
  by_cases hs : n ≤ 300 ∧ m ≤ 60
  · by_cases hy : cFits y ls
    · exact walkNoGets_fit A B n c y m d l ls w ht h k hs.1 hs.2 hy
    · exact walkNoGets_big A B n c y m d l ls w ht h k hs.1 hs.2 hy
  · exact walkNoGets_no A B n c y m d l ls w ht h k hs

end Go.Proofs.YtnponjdnjkegmaaDoor
end

section
namespace Go.Proofs.YtnponjdnjkegmaaDoor
open Go.ChangeShapes Go.WideShapes Go.ChangeAt Go.RowKit Go.Deep
set_option linter.unusedVariables false

theorem weights_all {H : Type} {P : Program} {e : TypeId} {elems : List (DataW H)} {d : DataW H} (hd : d ∈ elems) {n : Nat} (hn : n ∈ d.weights P e) : n ∈ DataW.weightsAll P e elems := by
  induction elems with
  | nil => cases hd
  | cons x r ih =>
    unfold DataW.weightsAll
    rcases List.mem_cons.1 hd with rfl | h
    · exact List.mem_append_left _ hn
    · exact List.mem_append_right _ (ih h)
theorem arg_txts {H : Type} {enc : TypeId × Value → H} {W : World} {A : Option Addr} {n c : Nat} {d : DataW H} {p : List MemPlace} (h : DataW.Trod enc Tryd.prog W 0 (fun _ => true) true 38 (.slice A n c) d p)
    {ts : List TypeId} {ds : List (DataW H)} (hsz : (DataW.weightsEach Tryd.prog ts ds).all (· ≤ reachBytes) = true) {j : Nat} (ht : ts[j]? = some 38) (hd : ds[j]? = some d) :
    ∃ l : List (List UInt8), TxtA W A n l ∧ n ≤ c ∧ c ≤ maxLen ∧ ∀ s ∈ l, s.length ≤ 140737488351232 := by
  obtain ⟨fuel, hf⟩ := h
  rcases open_strings Tryd.underlying38 Tryd.underlying9 (by kernel_rfl) hf with ⟨hcs, _⟩ | ⟨a, len, cap, ss, hcs, _, hl, hm, hz, hx, hcell, hs⟩
  · simp [Value.cells] at hcs
    obtain ⟨rfl, rfl, rfl⟩ := hcs
    exact ⟨[], ⟨rfl, Reads.empty⟩, Nat.le_refl _, Nat.zero_le _, fun s hs => by cases hs⟩
  · simp [Value.cells] at hcs
    obtain ⟨rfl, rfl, rfl⟩ := hcs
    have hz' : ss.length = c := by simpa using hz
    have hdd : d = .slice (strs (ss.take n)) (strs (ss.drop n)) := congrArg Prod.fst hx
    refine ⟨(ss.take n).map (fun s => s.data.toList), ⟨by simp; omega, fun hx => ?_⟩, hl, hm, fun s hs' => ?_⟩
    · simp at hx
      obtain ⟨b, off, spot⟩ := a
      have h0 := hcell 0 (by omega)
      have hspot : spot = none := by simpa [Addr.add] using World.cell?_spot h0
      subst hspot
      refine ⟨b, off, rfl, fun j u hj => ?_⟩
      have hjl := (List.getElem?_eq_some_iff.1 hj).1
      simp only [List.length_map, List.length_take] at hjl
      have hjn : j < ss.length := by omega
      have hjt : j < n := by omega
      have h2 := hcell j hjn
      rw [add_plain] at h2
      rw [h2, ← hj, List.map_map, List.getElem?_map, List.getElem?_take, if_pos hjt, List.getElem?_eq_getElem hjn]
      simp [cstV, List.getD, hjn]
    · obtain ⟨q, hq, rfl⟩ := List.mem_map.1 hs'
      have hmem : DataW.lit (.string q.data.toList) ∈ (strs (ss.take n) : List (DataW H)) := by
        unfold strs
        exact List.mem_map.2 ⟨q, hq, rfl⟩
      have hw : q.data.toList.length ∈ d.weights Tryd.prog 38 := by
        rw [hdd]
        unfold DataW.weights
        rw [Tryd.underlying38]
        exact List.mem_cons_of_mem _ (List.mem_append_left _ (weights_all hmem (by simp [DataW.weights])))
      have := List.all_eq_true.1 hsz _ (DataW.weights_mem_each ht hd _ hw)
      have h3 : q.data.toList.length ≤ reachBytes := by simpa using this
      unfold reachBytes at h3
      exact h3

end Go.Proofs.YtnponjdnjkegmaaDoor
end
