import Derived.Test.YtglkmpglpddfdaaGreatDoorJ00
import Derived.Test.YtglkmpglpddfdaaGreatDoorJLatq
import Derived.Lib.OthersKept
/- Of a claim's texts, joined: Cor1. No statement but in the last. -/
namespace Go.Proofs.YtglkmpglpddfdaaGreatDoor
open Go.RowKit
set_option linter.unusedVariables false

def letterB (r : Nat) : Bool := decide ((97 ≤ r ∧ r ≤ 122) ∨ (65 ≤ r ∧ r ≤ 90) ∨ 128 ≤ r)
theorem r5letter_any (r : Nat) (w : World) : Calls Tryz.prog 31 #[.int .i32 (r : Int)] w fun e w' => e = .returned (.bool (letterB r)) ∧ w = w' := by
  obtain ⟨b1, h1⟩ : ∃ b, decide ((97 : Int) ≤ (r : Int)) = b := ⟨_, rfl⟩
  obtain ⟨b2, h2⟩ : ∃ b, decide ((r : Int) ≤ 122) = b := ⟨_, rfl⟩
  obtain ⟨b3, h3⟩ : ∃ b, decide ((65 : Int) ≤ (r : Int)) = b := ⟨_, rfl⟩
  obtain ⟨b4, h4⟩ : ∃ b, decide ((r : Int) ≤ 90) = b := ⟨_, rfl⟩
  obtain ⟨b5, h5⟩ : ∃ b, decide ((128 : Int) ≤ (r : Int)) = b := ⟨_, rfl⟩
  have HB : Hid (letterB r = ((b1 && b2) || (b3 && b4) || b5)) := Lib.hid (by
    rw [← h1, ← h2, ← h3, ← h4, ← h5, Bool.eq_iff_iff]
    simp [letterB]
    omega)
  rw [HB.out]
  clear HB
  cases b1 <;> cases b2 <;> cases b3 <;> cases b4 <;> cases b5
  all_goals
    go_enter Tryz.func31, Tryz.ntmps31
    go_wp2
    go_ret
    exact ⟨rfl, rfl⟩

/-! Signs as the walk comes to them. -/
theorem next_sign {P : Program} {w : World} {k : Nat} {L : List UInt8} {pos : Nat} (hk : w.heap[k]? = some (.stringIter ⟨L.toArray⟩ pos)) (h : pos < L.length) (ty : TypeId) :
    (Instr.next (.pointer (some ⟨k, 0, none⟩)) true ty).run P w = .ok (.tuple #[.bool true, .int .i64 pos, .int .i32 (decL (L.drop pos)).1]) (w.iterAt k ⟨L.toArray⟩ (pos + (decL (L.drop pos)).2)) := by
  have := Lib.run_next_any_at (P := P) w k ⟨L.toArray⟩ pos ty hk (by rw [size_list]; exact h)
  rw [decode_drop] at this
  exact this
theorem next_end {P : Program} {w : World} {k : Nat} {L : List UInt8} {pos : Nat} (hk : w.heap[k]? = some (.stringIter ⟨L.toArray⟩ pos)) (h : ¬ pos < L.length) (ty : TypeId) :
    (Instr.next (.pointer (some ⟨k, 0, none⟩)) true ty).run P w = .ok (.tuple #[.bool false]) w :=
  Lib.run_next_end_at (P := P) w k ⟨L.toArray⟩ pos ty hk (by rw [size_list]; exact h)
theorem iter_pos {w : World} {k : Nat} {s : ByteArray} {pos : Nat} (hk : w.heap[k]? = some (.stringIter s pos)) : w.iterPos k = pos := by simp [World.iterPos, hk]
theorem drop_sign {L : List UInt8} {pos : Nat} (h : pos < L.length) : cut (L.drop pos) = ((decL (L.drop pos)).1, (L.drop pos).take (decL (L.drop pos)).2) :: cut (L.drop (pos + (decL (L.drop pos)).2)) ∧ 1 ≤ (decL (L.drop pos)).2 ∧ pos + (decL (L.drop pos)).2 ≤ L.length ∧ (decL (L.drop pos)).1 ≤ 1114111 := by
  have hne : L.drop pos ≠ [] := by
    intro e
    have := congrArg List.length e
    simp at this
    omega
  have hw := decL_width _ hne
  rw [List.length_drop] at hw
  refine ⟨?_, hw.1, by omega, decL_rune _⟩
  rw [cut_cons hne, List.drop_drop]

def sizeN (l : List UInt8) : Nat := ((cut l).map fun x => takesN x.1).sum
def wholeB (l : List UInt8) : Bool := decide (sizeN l = l.length)
theorem sizeN_end {L : List UInt8} {pos : Nat} (h : ¬ pos < L.length) : sizeN (L.drop pos) = 0 := by
  rw [List.drop_eq_nil_of_le (by omega)]
  unfold sizeN
  rw [cut_nil]
  rfl
theorem takesN_le (r : Nat) : takesN r ≤ 4 := by
  unfold takesN
  repeat' split
  all_goals omega
set_option maxRecDepth 100000 in
set_option maxHeartbeats 1000000 in
theorem r5whole_any (L : List UInt8) (w : World) (hl : L.length ≤ 281474976710656) :
    Calls Tryz.prog 32 #[.string ⟨L.toArray⟩] w (fun e w' => e = .returned (.bool (wholeB L)) ∧ Below w.heap.size w w') := by
  have hsz : (⟨L.toArray⟩ : ByteArray).size = L.length := size_list L
  have HSZ := Lib.hid hsz
  clear hsz
  go_enter Tryz.func32, Tryz.ntmps32
  go_wp2
  go_loopw [3] (fun v wr => ∃ pos n : Nat, pos ≤ L.length ∧ wr.heap[w.heap.size]? = some (.stringIter ⟨L.toArray⟩ pos) ∧ Below w.heap.size w wr ∧ v = .int .i64 n ∧ n + sizeN (L.drop pos) = sizeN L ∧ n ≤ 4 * pos) (fun _ wr => L.length - wr.iterPos w.heap.size)
  case atStart =>
    refine ⟨0, 0, Nat.zero_le _, ?_, (Below.refl _ w).alloc (Nat.le_refl _) _, rfl, by simp, Nat.zero_le _⟩
    have := World.iter_heap w ⟨L.toArray⟩ 0
    simpa using this
  case round =>
    obtain ⟨pos, n, hp, hit, hB, rfl, hs, hn⟩ := hrel
    have HB := Lib.hid hB
    have HS := Lib.hid hs
    clear hB hs
    by_cases hlt : pos < L.length
    · obtain ⟨hc, hw1, hw2, hr⟩ := drop_sign hlt
      have hnx := fun ty => next_sign (P := Tryz.prog) hit hlt ty
      have HI := Lib.hid (fun p => Lib.iterAt_heap wr w.heap.size ⟨L.toArray⟩ pos p hit)
      have HBi := Lib.hid (fun p => Lib.below_iterAt HB.out (k := w.heap.size) (Nat.le_refl _) ⟨L.toArray⟩ p)
      have HM := Lib.hid (iter_pos hit)
      have HSt : Hid (sizeN (L.drop pos) = takesN (decL (L.drop pos)).1 + sizeN (L.drop (pos + (decL (L.drop pos)).2))) := Lib.hid (by
        unfold sizeN
        rw [hc]
        rfl)
      clear hc
      generalize (decL (L.drop pos)).1 = r at hnx HSt hr
      generalize (decL (L.drop pos)).2 = k at hnx HSt hw1 hw2 
      have htk := takesN_le r
      have hall : (decide ((r : Int) < 128) = true ∧ takesN r = 1) ∨ (decide ((r : Int) < 128) = false ∧ decide ((r : Int) < 2048) = true ∧ takesN r = 2) ∨ (decide ((r : Int) < 128) = false ∧ decide ((r : Int) < 2048) = false ∧ decide ((r : Int) < 65536) = true ∧ takesN r = 3) ∨ (decide ((r : Int) < 128) = false ∧ decide ((r : Int) < 2048) = false ∧ decide ((r : Int) < 65536) = false ∧ takesN r = 4) := by
        unfold takesN
        simp only [decide_eq_true_eq, decide_eq_false_iff_not]
        repeat' split
        all_goals omega
      rcases hall with ⟨d1, ht⟩ | ⟨d1, d2, ht⟩ | ⟨d1, d2, d3, ht⟩ | ⟨d1, d2, d3, ht⟩
      · rw [ht] at HSt htk
        clear ht
        go_wp2
        go_roundw
        case rel => exact ⟨pos + k, n + 1, hw2, HI.out _, HBi.out _, by go_num, by have := HS.out; have := HSt.out; omega, by omega⟩
        case measure =>
          rw [iter_pos (HI.out _), HM.out]
          omega
      · rw [ht] at HSt htk
        clear ht
        go_wp2
        go_roundw
        case rel => exact ⟨pos + k, n + 2, hw2, HI.out _, HBi.out _, by go_num, by have := HS.out; have := HSt.out; omega, by omega⟩
        case measure =>
          rw [iter_pos (HI.out _), HM.out]
          omega
      · rw [ht] at HSt htk
        clear ht
        go_wp2
        go_roundw
        case rel => exact ⟨pos + k, n + 3, hw2, HI.out _, HBi.out _, by go_num, by have := HS.out; have := HSt.out; omega, by omega⟩
        case measure =>
          rw [iter_pos (HI.out _), HM.out]
          omega
      · rw [ht] at HSt htk
        clear ht
        go_wp2
        go_roundw
        case rel => exact ⟨pos + k, n + 4, hw2, HI.out _, HBi.out _, by go_num, by have := HS.out; have := HSt.out; omega, by omega⟩
        case measure =>
          rw [iter_pos (HI.out _), HM.out]
          omega
    · have hnx := fun ty => next_end (P := Tryz.prog) hit hlt ty
      have hs := HS.out
      rw [sizeN_end hlt] at hs
      have HE : Hid (wholeB L = ((n : Int) == ((⟨L.toArray⟩ : ByteArray).size : Int))) := Lib.hid (by
        rw [HSZ.out, Bool.eq_iff_iff]
        unfold wholeB
        simp
        omega)
      clear hs
      obtain ⟨w5, hw5⟩ : ∃ w5 : World, w5 = wr := ⟨_, rfl⟩
      subst hw5
      go_wp2
      go_ret
      exact ⟨ret_bool HE.out.symm, HB.out⟩

def nameB (l : List UInt8) : Bool := (cut l).all (fun x => letterB x.1) && (wholeB l && (decide (1 ≤ (cut l).length) && decide ((cut l).length ≤ 12)))
set_option maxRecDepth 100000 in
set_option maxHeartbeats 1000000 in
theorem r5Name_any (L : List UInt8) (w : World) (hl : L.length ≤ 281474976710656) :
    Calls Tryz.prog 11 #[.string ⟨L.toArray⟩] w fun e w' => e = .returned (.bool (nameB L)) ∧ Below w.heap.size w w' := by
  have HW := Lib.hid (fun w1 => r5whole_any L w1 hl)
  have HLt := Lib.hid (fun (r : Nat) w1 => r5letter_any r w1)
  have HCL := Lib.hid (cut_len L)
  go_enter Tryz.func11, Tryz.ntmps11
  go_wp2
  go_loopw [3] (fun v wr => ∃ pos n : Nat, pos ≤ L.length ∧ wr.heap[w.heap.size]? = some (.stringIter ⟨L.toArray⟩ pos) ∧ Below w.heap.size w wr ∧ v = .int .i64 n ∧ n + (cut (L.drop pos)).length = (cut L).length ∧ ((cut L).all (fun x => letterB x.1) = (cut (L.drop pos)).all (fun x => letterB x.1))) (fun _ wr => L.length - wr.iterPos w.heap.size)
  case atStart =>
    refine ⟨0, 0, Nat.zero_le _, ?_, (Below.refl _ w).alloc (Nat.le_refl _) _, rfl, by simp, by simp⟩
    have := World.iter_heap w ⟨L.toArray⟩ 0
    simpa using this
  case round =>
    obtain ⟨pos, n, hp, hit, hB, rfl, hs, hal⟩ := hrel
    have HB := Lib.hid hB
    have HS := Lib.hid hs
    have HAl := Lib.hid hal
    clear hB hs hal
    by_cases hlt : pos < L.length
    · obtain ⟨hc, hw1, hw2, hr⟩ := drop_sign hlt
      have hnx := fun ty => next_sign (P := Tryz.prog) hit hlt ty
      have HI := Lib.hid (fun p => Lib.iterAt_heap wr w.heap.size ⟨L.toArray⟩ pos p hit)
      have HBi := Lib.hid (fun p => Lib.below_iterAt HB.out (k := w.heap.size) (Nat.le_refl _) ⟨L.toArray⟩ p)
      have HM := Lib.hid (iter_pos hit)
      have HC := Lib.hid hc
      clear hc
      generalize (decL (L.drop pos)).1 = r at hnx HC hr
      generalize (decL (L.drop pos)).2 = k at hnx HC hw1 hw2
      have HLr := Lib.hid (HLt.out r)
      have hnl : n < 281474976710656 := by have := HS.out; have := HCL.out; rw [HC.out, List.length_cons] at *; omega
      have HAr : Hid ((cut L).all (fun x => letterB x.1) = (letterB r && (cut (L.drop (pos + k))).all (fun x => letterB x.1))) := Lib.hid (by rw [HAl.out, HC.out]; rfl)
      have HNr : Hid (n + 1 + (cut (L.drop (pos + k))).length = (cut L).length) := Lib.hid (by rw [← HS.out, HC.out, List.length_cons]; omega)
      generalize letterB r = v at HLr HAr
      cases v
      · have HF : Hid (nameB L = false) := Lib.hid (by unfold nameB; rw [HAr.out]; rfl)
        go_wp2_with (go_at_call 31; refine (HLr.out _).mono ?_; rintro e w' ⟨rfl, rfl⟩)
        go_ret
        exact ⟨ret_bool HF.out.symm, HBi.out _⟩
      · go_wp2_with (go_at_call 31; refine (HLr.out _).mono ?_; rintro e w' ⟨rfl, rfl⟩)
        go_roundw
        case rel => exact ⟨pos + k, n + 1, hw2, HI.out _, HBi.out _, by go_num, HNr.out, by rw [HAr.out, Bool.true_and]⟩
        case measure =>
          rw [iter_pos (HI.out _), HM.out]
          omega
    · have hnx := fun ty => next_end (P := Tryz.prog) hit hlt ty
      have hs := HS.out
      have ha := HAl.out
      rw [List.drop_eq_nil_of_le (by omega), cut_nil] at hs ha
      have hnm : nameB L = (wholeB L && (decide (1 ≤ n) && decide (n ≤ 12))) := by
        unfold nameB
        rw [ha, ← hs]
        simp
      have HN := Lib.hid hnm
      clear hnm hs ha
      obtain ⟨w5, hw5⟩ : ∃ w5 : World, w5 = wr := ⟨_, rfl⟩
      subst hw5
      have HWx := Lib.hid (HW.out w5)
      generalize wholeB L = v at HN HWx
      cases v
      · go_wp2_with (go_at_call 32; refine HWx.out.mono ?_; rintro e w6 ⟨rfl, h6⟩; have B6 := Lib.hid (below_step HB.out h6); clear h6)
        go_ret
        exact ⟨ret_bool HN.out.symm, B6.out⟩
      · by_cases h1 : 1 ≤ n
        · go_wp2_with (go_at_call 32; refine HWx.out.mono ?_; rintro e w6 ⟨rfl, h6⟩; have B6 := Lib.hid (below_step HB.out h6); clear h6)
          go_ret
          exact ⟨ret_bool (by rw [HN.out, Bool.eq_iff_iff]; simp [h1]; omega), B6.out⟩
        · go_wp2_with (go_at_call 32; refine HWx.out.mono ?_; rintro e w6 ⟨rfl, h6⟩; have B6 := Lib.hid (below_step HB.out h6); clear h6)
          go_ret
          exact ⟨ret_bool (by rw [HN.out]; simp; omega), B6.out⟩


/-! Texts in a row. -/
def strV (l : List UInt8) : Value := .string ⟨l.toArray⟩
structure ArgT (w : World) (A : Option Addr) (n c : Nat) (l : List (List UInt8)) : Prop where
  len : n = l.length
  reads : Reads w A (l.map strV)
  old : 0 < n → ∀ a, A = some a → a.block < w.heap.size
  room : n ≤ c
  most : c ≤ maxLen
theorem ArgT.below {w w' : World} {A : Option Addr} {n c : Nat} {l : List (List UInt8)} (h : ArgT w A n c l) (hb : Below w.heap.size w w') : ArgT w' A n c l :=
  ⟨h.len, h.reads.below hb (fun hx => h.old (by rw [h.len]; simpa using hx)), fun hn a ha => Nat.lt_of_lt_of_le (h.old hn a ha) hb.size, h.room, h.most⟩
theorem Reads.sat_ {w : World} {A : Option Addr} {l : List (List UInt8)} (h : Reads w A (l.map strV)) {i : Nat} (hi : i < l.length) :
    ∃ g off, A = some ⟨g, off, none⟩ ∧ w.cell? ⟨g, off + i, none⟩ = some (.string ⟨l[i].toArray⟩) := by
  obtain ⟨g, off, hA, hc⟩ := h (by simp; omega)
  exact ⟨g, off, hA, hc i (strV l[i]) (by simp [List.getElem?_eq_getElem hi])⟩
theorem ArgT.take {w : World} {A : Option Addr} {n c : Nat} {l : List (List UInt8)} (h : ArgT w A n c l) {k : Nat} (hk : k ≤ n) : ArgT w A k c (l.take k) := by
  have hl := h.len
  refine ⟨by rw [List.length_take]; omega, ?_, fun hk' => h.old (by omega), by have := h.room; omega, h.most⟩
  rw [List.map_take]
  exact h.reads.take k
def findN (l : List (List UInt8)) (s : List UInt8) : Int := firstN (fun i => decide (l.getD i [] = s)) l.length
theorem getT_at (l : List (List UInt8)) (i : Nat) (h : i < l.length) : l.getD i [] = l[i] := by simp [List.getD, List.getElem?_eq_getElem h]
set_option maxHeartbeats 1000000 in
theorem r5find_any (A : Option Addr) (n c : Nat) (l : List (List UInt8)) (s : List UInt8) (w : World) (h : ArgT w A n c l) (hn : n ≤ 1000000) :
    Calls Tryz.prog 39 #[.slice A n c, .string ⟨s.toArray⟩] w fun e w' => e = .returned (.int .i64 (findN l s)) ∧ w = w' := by
  have HA := Lib.hid h
  have HN := Lib.hid h.len
  clear h
  go_enter Tryz.func39, Tryz.ntmps39
  go_wp2
  go_loopw [5] (fun i wr => wr = w ∧ ∃ k : Nat, k ≤ n ∧ i = .int .i64 k ∧ ∀ j, j < k → decide (l.getD j [] = s) = false) (fun i _ => n - (intOf i).toNat)
  case atStart => exact ⟨rfl, 0, Nat.zero_le _, rfl, fun j hj => absurd hj (by omega)⟩
  case round =>
    obtain ⟨rfl, k, hk, rfl, hj⟩ := hrel
    have HJ := Lib.hid hj
    clear hj
    by_cases hlt : k < n
    · have hkl : k < l.length := by have := HN.out; omega
      obtain ⟨g, off, rfl, ck⟩ := HA.out.reads.sat_ hkl
      have hg := getT_at l k hkl
      by_cases he : l[k] = s
      · have HF : Hid (findN l s = k) := Lib.hid (firstN_some hkl (by rw [hg, he]; simp) HJ.out)
        rw [he] at ck
        go_wp2
        go_ret
        exact ⟨ret_i64 HF.out.symm, rfl⟩
      · have hne : (l[k] == s) = false := by simpa using he
        have HF : Hid (decide (l.getD k [] = s) = false) := Lib.hid (by rw [hg]; simpa using he)
        generalize l[k] = u at ck hne
        clear hg he
        go_wp2
        go_roundw
        case rel => exact ⟨trivial, k + 1, by omega, by go_num, fun j hj => by
          by_cases e : j = k
          · subst e; exact HF.out
          · exact HJ.out j (by omega)⟩
        case measure => simp [intOf]; omega
    · obtain rfl : k = n := by omega
      have HF : Hid (findN l s = -1) := Lib.hid (firstN_none (by rw [← HN.out]; exact HJ.out))
      go_wp2
      go_ret
      exact ⟨ret_i64 HF.out.symm, rfl⟩

end Go.Proofs.YtglkmpglpddfdaaGreatDoor
