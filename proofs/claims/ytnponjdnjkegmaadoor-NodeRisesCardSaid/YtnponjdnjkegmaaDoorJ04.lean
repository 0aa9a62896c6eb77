import Derived.Test.YtnponjdnjkegmaaDoorJ03
import Derived.Handy
import Derived.OrdersHeld
import Derived.Deep.RegionHeld
import Derived.RangeFuncNested
import Derived.RangeFuncCalls
import Derived.OwnWalkIn
import Derived.OrdersIn
import Derived.Below
import Derived.Lib.AppendZeros
/- Of a claim's texts, joined: Reft Nea Rdr Nek Neg. No statement but in the last. -/
section
namespace Go.Proofs.YtnponjdnjkegmaaDoor
open Go.RowKit
set_option linter.unusedVariables false

theorem ext_take (l : List UInt8) (n : Nat) : (⟨l.toArray⟩ : ByteArray).extract 0 n = ⟨(l.take n).toArray⟩ := by
  apply ByteArray.ext
  simp [ByteArray.data_extract]
theorem ext_drop (l : List UInt8) (n : Nat) : (⟨l.toArray⟩ : ByteArray).extract n l.length = ⟨(l.drop n).toArray⟩ := by
  apply ByteArray.ext
  simp [ByteArray.data_extract]
  exact List.take_of_length_le (by simp)

def RT (w : World) (Q : Nat) (l : List UInt8) (er : Int) : Prop := Has w Q 105 #[.string ⟨l.toArray⟩, .int .i64 er]
def RStrEnd (Q : Nat) (w : World) (s l : List UInt8) (er : Int) (e : Ending) (w' : World) : Prop := e = .returned (.string ⟨s.toArray⟩) ∧ RT w' Q l er ∧ w.grownBy w' (some Q)
def RNumEnd (Q : Nat) (w : World) (x : Nat) (l : List UInt8) (er : Int) (e : Ending) (w' : World) : Prop := e = .returned (.int .u64 (x : Int)) ∧ RT w' Q l er ∧ w.grownBy w' (some Q)

theorem RT.fail {w : World} {Q : Nat} {l : List UInt8} {er : Int} (h : RT w Q l er) (er' : Int) : RT (w.setCell ⟨Q, 1, none⟩ (.int .i64 er')) Q l er' := by
  have := Has.store h 1 (.int .i64 er')
  simpa [RT] using this
theorem RT.cut {w : World} {Q : Nat} {l : List UInt8} {er : Int} (h : RT w Q l er) (l' : List UInt8) : RT (w.setCell ⟨Q, 0, none⟩ (.string ⟨l'.toArray⟩)) Q l' er := by
  have := Has.store h 0 (.string ⟨l'.toArray⟩)
  simpa [RT] using this

set_option maxRecDepth 100000 in
theorem rsome_any (Q : Nat) (l : List UInt8) (er : Int) (n : Nat) (w : World) (h : RT w Q l er) (hl : l.length ≤ 1000000) :
    Calls Tryd.prog 59 #[.pointer (some ⟨Q, 0, none⟩), .int .i64 n] w (RStrEnd Q w (stS l er n).1 (stS l er n).2.1 (stS l er n).2.2) := by
  have c0 := Has.cell0 h
  have c1 := Has.cell1 h
  have f0 := Has.free h 0
  have f1 := Has.free h 1
  have HT := Lib.hid h
  clear h
  by_cases h0 : er = 0
  · subst h0
    by_cases hn : l.length < n
    · simp only [stS, ne_eq, not_true, if_false, if_pos hn]
      have d1 : decide (l.length < n) = true := by simp; omega
      go_enter Tryd.func59, Tryd.ntmps59
      go_wp2
      go_ret
      exact ⟨rfl, HT.out.fail 10, only_store (only_refl w Q) 1 _⟩
    · simp only [stS, ne_eq, not_true, if_false, if_neg hn]
      have d1 : decide (l.length < n) = false := by simp; omega
      go_enter Tryd.func59, Tryd.ntmps59
      go_wp2
      go_ret
      refine ⟨ret_str (ext_take l n), ?_, only_store (only_refl w Q) 0 _⟩
      rw [ext_drop]
      exact HT.out.cut (l.drop n)
  · simp only [stS, ne_eq, h0, not_false_eq_true, if_true]
    have q1 : (er == 0) = false := by simpa using h0
    have q2 : (er != 0) = true := by simpa using h0
    clear h0
    go_enter Tryd.func59, Tryd.ntmps59
    go_wp2
    go_ret
    exact ⟨rfl, HT.out, only_refl w Q⟩

theorem numOf_eq (l : List UInt8) (k : Nat) (c : UInt8) (h : l[k]? = some c) : numOf (l.take (k + 1)) = numOf (l.take k) * 256 + c.toNat := by rw [take_more h, numOf_snoc]

set_option maxRecDepth 100000 in
set_option maxHeartbeats 1000000 in
theorem rtNum_any (Q : Nat) (l : List UInt8) (er size : Int) (w : World) (h : RT w Q l er) (hl : l.length ≤ 1000000) :
    Calls Tryd.prog 49 #[.pointer (some ⟨Q, 0, none⟩), .int .i64 size] w (RNumEnd Q w (stN l er size).1 (stN l er size).2.1 (stN l er size).2.2) := by
  have c0 := Has.cell0 h
  have c1 := Has.cell1 h
  have f1 := Has.free h 1
  have HT := Lib.hid h
  clear h
  by_cases h0 : er = 0
  · subst h0
    by_cases hs : size < 1 ∨ 8 < size
    · simp only [stN, ne_eq, not_true, if_false, if_pos hs]
      rcases hs with hs | hs
      · go_enter Tryd.func49, Tryd.ntmps49
        go_wp2
        go_ret
        exact ⟨rfl, HT.out.fail 1, only_store (only_refl w Q) 1 _⟩
      · have hs1 : 1 ≤ size := by omega
        go_enter Tryd.func49, Tryd.ntmps49
        go_wp2
        go_ret
        exact ⟨rfl, HT.out.fail 1, only_store (only_refl w Q) 1 _⟩
    · have hs1 : 1 ≤ size := by omega
      have hs8 : size ≤ 8 := by omega
      have hr : stN l 0 size = (numOf (stS l 0 size.toNat).1, (stS l 0 size.toNat).2.1, (stS l 0 size.toNat).2.2) := by
        by_cases hlt : (l.length : Int) < size
        · have hlt2 : l.length < size.toNat := by omega
          simp only [stN, stS, ne_eq, not_true, if_false, if_neg hs, if_pos hlt, if_pos hlt2]
          rfl
        · have hlt2 : ¬ l.length < size.toNat := by omega
          simp only [stN, stS, ne_eq, not_true, if_false, if_neg hs, if_neg hlt, if_neg hlt2]
      rw [hr]
      obtain ⟨n, rfl⟩ : ∃ n : Nat, size = (n : Int) := ⟨size.toNat, by omega⟩
      clear hr hs
      rw [Int.toNat_natCast]
      have ht : (stS l 0 n).1.length ≤ 8 := by
        unfold stS
        rw [if_neg (by simp)]
        split
        · simp
        · simp; omega
      have HK := Lib.hid (rsome_any Q l 0 n w HT.out hl)
      obtain ⟨t, l1, er1, hst⟩ : ∃ t l1 er1, stS l 0 n = (t, l1, er1) := ⟨_, _, _, rfl⟩
      rw [hst] at HK ht ⊢
      simp only at HK ht ⊢
      clear hst
      go_enter Tryd.func49, Tryd.ntmps49
      go_wp2_with (go_at_call 59; refine HK.out.mono ?_; rintro e w1 ⟨rfl, h1, h2⟩; have R1 := Lib.hid h1; have G1 := Lib.hid h2; clear h1 h2)
      go_loop [6, 7] (fun x i => ∃ k : Nat, k ≤ t.length ∧ i = .int .i64 k ∧ x = .int .u64 (numOf (t.take k) : Int)) (fun _ i => t.length - (intOf i).toNat)
      case atStart => exact ⟨0, Nat.zero_le _, rfl, rfl⟩
      case round =>
        obtain ⟨k, hk, rfl, rfl⟩ := hrel
        by_cases hlt : k < t.length
        · obtain ⟨d, hd⟩ : ∃ d, t[k]? = some d := ⟨_, List.getElem?_eq_getElem hlt⟩
          have hb := numOf_take_lt t k 7 (by omega)
          have HN := Lib.hid (numOf_eq t k d hd)
          have hd2 := d.toNat_lt
          have htk : t[k] = d := by rw [List.getElem?_eq_getElem hlt] at hd; injection hd
          have HD := Lib.hid hd
          clear hd
          generalize numOf (t.take k) = x at hb HN
          have HK2 := Lib.hid htk
          clear htk
          go_wp2
          go_round
          case rel =>
            refine ⟨k + 1, by omega, by go_num, u64_eq ?_⟩
            have e : (⟨t.toArray⟩ : ByteArray)[k] = d := HK2.out
            rw [e, IntWalk.u64_in (d.toNat : Int) (by omega), IntWalk.u64_in _ (by omega), HN.out]
            omega
          case measure => simp [intOf]; omega
        · go_wp2
          go_ret
          exact ⟨ret_u64 (by rw [List.take_of_length_le (by omega)]), R1.out, G1.out⟩
  · simp only [stN, ne_eq, h0, not_false_eq_true, if_true]
    have q1 : (er == 0) = false := by simpa using h0
    have q2 : (er != 0) = true := by simpa using h0
    clear h0
    go_enter Tryd.func49, Tryd.ntmps49
    go_wp2
    go_ret
    exact ⟨rfl, HT.out, only_refl w Q⟩

theorem stN_len (l : List UInt8) (er size : Int) : (stN l er size).2.1.length ≤ l.length := by
  unfold stN
  split
  · simp
  · split
    · simp
    · split <;> simp

theorem rtText_any (Q : Nat) (l : List UInt8) (er : Int) (w : World) (h : RT w Q l er) (hl : l.length ≤ 1000000) :
    Calls Tryd.prog 48 #[.pointer (some ⟨Q, 0, none⟩)] w (RStrEnd Q w (stT l er).1 (stT l er).2.1 (stT l er).2.2) := by
  have HN := Lib.hid (rtNum_any Q l er 1 w h hl)
  have hx := stN_one l er
  have hle := stN_len l er 1
  unfold stT
  obtain ⟨x, l1, er1, hst⟩ : ∃ x l1 er1, stN l er 1 = (x, l1, er1) := ⟨_, _, _, rfl⟩
  rw [hst] at hx HN hle ⊢
  simp only at hx HN hle ⊢
  clear hst h
  go_enter Tryd.func48, Tryd.ntmps48
  go_wp2_with (first | (go_at_call 49; refine HN.out.mono ?_; rintro e w1 ⟨rfl, h1, h2⟩; have R1 := Lib.hid h1; have G1 := Lib.hid h2; clear h1 h2) | (go_at_call 59; refine (rsome_any Q l1 er1 x _ R1.out (by omega)).mono ?_; rintro e w2 ⟨rfl, h1, h2⟩; have R2 := Lib.hid h1; have G2 := Lib.hid h2; clear h1 h2))
  go_ret
  exact ⟨rfl, R2.out, only_trans G1.out G2.out⟩
theorem rtRest_any (Q : Nat) (l : List UInt8) (er : Int) (w : World) (h : RT w Q l er) (hl : l.length ≤ 1000000) :
    Calls Tryd.prog 51 #[.pointer (some ⟨Q, 0, none⟩)] w (RStrEnd Q w (stS l er l.length).1 (stS l er l.length).2.1 (stS l er l.length).2.2) := by
  have c0 := Has.cell0 h
  have HN := Lib.hid (rsome_any Q l er l.length w h hl)
  clear h
  go_enter Tryd.func51, Tryd.ntmps51
  go_wp2_with (first | (go_at_call 59; refine HN.out.mono ?_; rintro e w2 ⟨rfl, h1, h2⟩; have R2 := Lib.hid h1; have G2 := Lib.hid h2; clear h1 h2))
  go_ret
  exact ⟨rfl, R2.out, G2.out⟩
theorem rtDone_any (Q : Nat) (l : List UInt8) (er : Int) (w : World) (h : RT w Q l er) :
    Calls Tryd.prog 50 #[.pointer (some ⟨Q, 0, none⟩)] w fun e w' => e = .returned (.int .i64 (dn l er)) ∧ w = w' := by
  have c0 := Has.cell0 h
  have c1 := Has.cell1 h
  clear h
  by_cases h0 : er = 0
  · subst h0
    rcases l with _ | ⟨d, l⟩
    · go_enter Tryd.func50, Tryd.ntmps50
      go_wp2
      go_ret
      exact ⟨rfl, rfl⟩
    · go_enter Tryd.func50, Tryd.ntmps50
      go_wp2
      go_ret
      exact ⟨rfl, rfl⟩
  · have q1 : (er == 0) = false := by simpa using h0
    have hd : dn l er = er := by unfold dn; rw [if_pos h0]
    rw [hd]
    clear hd h0
    go_enter Tryd.func50, Tryd.ntmps50
    go_wp2
    go_ret
    exact ⟨rfl, rfl⟩

end Go.Proofs.YtnponjdnjkegmaaDoor
end

section
namespace Go.Proofs.YtnponjdnjkegmaaDoor
open Go.RowKit
set_option linter.unusedVariables false

def valV (e : En) : Value := .agg #[cstV e.d, .bool e.far, .int .i64 e.sz, .int .i64 e.pg]
def enV (e : En) : Value := .agg #[cstV e.k, cstV e.d, .bool e.far, .int .i64 e.sz, .int .i64 e.pg]
def enC (e : En) : List Value := [cstV e.k, cstV e.d, .bool e.far, .int .i64 e.sz, .int .i64 e.pg]
def cellsN (l : List En) : List Value := l.flatMap enC
theorem cellsN_len (l : List En) : (cellsN l).length = 5 * l.length := by
  induction l with
  | nil => rfl
  | cons g l ih => simp [cellsN, enC] at ih ⊢; omega
theorem cellsN_app (l m : List En) : cellsN (l ++ m) = cellsN l ++ cellsN m := by simp [cellsN]
theorem cellsN_at (l : List En) (i : Nat) (h : i < l.length) : (cellsN l)[5 * i]? = some (cstV l[i].k) ∧ (cellsN l)[5 * i + 1]? = some (cstV l[i].d) ∧ (cellsN l)[5 * i + 2]? = some (.bool l[i].far) ∧ (cellsN l)[5 * i + 3]? = some (.int .i64 l[i].sz) ∧ (cellsN l)[5 * i + 4]? = some (.int .i64 l[i].pg) := by
  induction l generalizing i with
  | nil => simp at h
  | cons g l ih =>
    cases i with
    | zero => simp [cellsN, enC]
    | succ i =>
      have hi : i < l.length := by simpa using h
      obtain ⟨h1, h2, h3, h4, h5⟩ := ih i hi
      have e : cellsN (g :: l) = enC g ++ cellsN l := by simp [cellsN]
      rw [e]
      have hl : (enC g).length = 5 := rfl
      rw [List.getElem?_append_right (by rw [hl]; omega), List.getElem?_append_right (by rw [hl]; omega), List.getElem?_append_right (by rw [hl]; omega), List.getElem?_append_right (by rw [hl]; omega), List.getElem?_append_right (by rw [hl]; omega), hl]
      simp only [List.getElem_cons_succ]
      rw [show 5 * (i + 1) - 5 = 5 * i by omega, show 5 * (i + 1) + 1 - 5 = 5 * i + 1 by omega, show 5 * (i + 1) + 2 - 5 = 5 * i + 2 by omega, show 5 * (i + 1) + 3 - 5 = 5 * i + 3 by omega, show 5 * (i + 1) + 4 - 5 = 5 * i + 4 by omega]
      exact ⟨h1, h2, h3, h4, h5⟩
theorem cellsN_take (l : List En) (k : Nat) : cellsN (l.take k) = (cellsN l).take (5 * k) := by
  induction l generalizing k with
  | nil => simp [cellsN]
  | cons g l ih =>
    cases k with
    | zero => simp [cellsN]
    | succ k =>
      have e : ∀ m : List En, cellsN (g :: m) = enC g ++ cellsN m := fun m => by simp [cellsN]
      have hl : (enC g).length = 5 := rfl
      rw [List.take_succ_cons, e, e, ih, List.take_append, hl, show (enC g).take (5 * (k + 1)) = enC g from List.take_of_length_le (by rw [hl]; omega), show 5 * (k + 1) - 5 = 5 * k by omega]
theorem cellsN_drop (l : List En) (k : Nat) : cellsN (l.drop k) = (cellsN l).drop (5 * k) := by
  induction l generalizing k with
  | nil => simp [cellsN]
  | cons g l ih =>
    cases k with
    | zero => simp [cellsN]
    | succ k =>
      have e : cellsN (g :: l) = enC g ++ cellsN l := by simp [cellsN]
      have hl : (enC g).length = 5 := rfl
      rw [List.drop_succ_cons, e, ih, List.drop_append, hl, show (enC g).drop (5 * (k + 1)) = [] from List.drop_of_length_le (by rw [hl]; omega), List.nil_append, show 5 * (k + 1) - 5 = 5 * k by omega]
structure NodA (w : World) (A : Option Addr) (n c : Nat) (l : List En) : Prop where
  len : n = l.length
  reads : Reads w A (cellsN l)
  room : n ≤ c
  most : c ≤ maxLen
  strs : ∀ e ∈ l, e.k.length ≤ maxLen ∧ e.d.length ≤ maxLen
theorem NodA.below {w w' : World} {A : Option Addr} {n c : Nat} {l : List En} (h : NodA w A n c l) (hb : Below w.heap.size w w') : NodA w' A n c l :=
  ⟨h.len, h.reads.keep_ hb, h.room, h.most, h.strs⟩
theorem NodA.drew {w : World} {A : Option Addr} {n c : Nat} {l : List En} (h : NodA w A n c l) : NodA w.drew A n c l := ⟨h.len, h.reads, h.room, h.most, h.strs⟩
theorem NodA.none_ (w : World) : NodA w none 0 0 [] := ⟨rfl, Reads.empty, Nat.le_refl _, Nat.zero_le _, fun x hx => by cases hx⟩
theorem Reads.eat {w : World} {A : Option Addr} {l : List En} (h : Reads w A (cellsN l)) {i : Nat} (hi : i < l.length) :
    ∃ g off, A = some ⟨g, off, none⟩ ∧ w.cell? ⟨g, off + i * 5, none⟩ = some (cstV l[i].k) ∧ w.cell? ⟨g, off + i * 5 + 1, none⟩ = some (cstV l[i].d) ∧ w.cell? ⟨g, off + i * 5 + 2, none⟩ = some (.bool l[i].far) ∧ w.cell? ⟨g, off + i * 5 + 3, none⟩ = some (.int .i64 l[i].sz) ∧ w.cell? ⟨g, off + i * 5 + 4, none⟩ = some (.int .i64 l[i].pg) := by
  obtain ⟨g, off, hA, hc⟩ := h (by rw [cellsN_len]; omega)
  obtain ⟨h1, h2, h3, h4, h5⟩ := cellsN_at l i hi
  rw [Nat.mul_comm 5 i] at h1 h2 h3 h4 h5
  refine ⟨g, off, hA, hc _ _ h1, ?_, ?_, ?_, ?_⟩
  · rw [Nat.add_assoc]; exact hc _ _ h2
  · rw [Nat.add_assoc]; exact hc _ _ h3
  · rw [Nat.add_assoc]; exact hc _ _ h4
  · rw [Nat.add_assoc]; exact hc _ _ h5

def pageB (x : Int) : Bool := decide (2 ≤ x) && decide (x ≤ 999)
theorem nPage_any (x : Int) (w : World) : Calls Tryd.prog 96 #[.int .i64 x] w fun e w' => e = .returned (.bool (pageB x)) ∧ w = w' := by
  unfold pageB
  by_cases h : 2 ≤ x
  · have h1 : decide (2 ≤ x) = true := decide_eq_true h
    rw [h1]
    go_enter Tryd.func96, Tryd.ntmps96
    go_wp2
    go_ret
    exact ⟨rfl, rfl⟩
  · have h1 : decide (2 ≤ x) = false := decide_eq_false h
    rw [h1]
    go_enter Tryd.func96, Tryd.ntmps96
    go_wp2
    go_ret
    exact ⟨rfl, rfl⟩
theorem u64N_wrap (x : Int) : IntKind.u64.wrap x = ((u64N x : Nat) : Int) := by rw [IntKind.wrap_u64]; unfold u64N; omega
theorem nnum_any (x : Int) (w : World) : Calls Tryd.prog 92 #[.int .i64 x] w fun e w' => e = .returned (.slice (some ⟨w.heap.size, 0, none⟩) 2 2) ∧ w.alloc (.cells ((numB (u64N x) 2).map byteV).toArray 5) = w' := by
  have hx := u64N_lt x
  have HW := Lib.hid (u64N_wrap x)
  have HN := Lib.hid (fun w => Num_yes (u64N x) 2 w hx (by decide) (by decide))
  go_enter Tryd.func92, Tryd.ntmps92
  go_wp2_with (go_at_call 41; (try rw [HW.out]); refine (HN.out _).mono ?_; rintro e w1 ⟨rfl, rfl⟩)
  go_ret
  exact ⟨rfl, rfl⟩
theorem stN_two_le (l : List UInt8) (er : Int) : (stN l er 2).1 ≤ 65535 := by
  unfold stN
  split
  · simp
  · split
    · simp
    · split
      · simp
      · have := numOf_take_lt l 2 2 (Nat.le_refl _)
        show numOf (l.take (2 : Int).toNat) ≤ 65535
        rw [show (2 : Int).toNat = 2 from rfl]
        omega
def IntEnd (base P : Nat) (w : World) (x : Nat) (l : List UInt8) (er : Int) (e : Ending) (w' : World) : Prop := e = .returned (.int .i64 (x : Int)) ∧ Tk w' base P l er ∧ w.grownBy w' (some P)
theorem ntakeNum_any (base P : Nat) (l : List UInt8) (er : Int) (w : World) (h : Tk w base P l er) :
    Calls Tryd.prog 93 #[.pointer (some ⟨P, 0, none⟩)] w (IntEnd base P w (stN l er 2).1 (stN l er 2).2.1 (stN l er 2).2.2) := by
  have HN := Lib.hid (tNum_any base P l er 2 w h)
  have hx := stN_two_le l er
  obtain ⟨x, l1, er1, hst⟩ : ∃ x l1 er1, stN l er 2 = (x, l1, er1) := ⟨_, _, _, rfl⟩
  rw [hst] at hx HN ⊢
  simp only at hx HN ⊢
  clear hst h
  go_enter Tryd.func93, Tryd.ntmps93
  go_wp2_with (go_at_call 54; refine HN.out.mono ?_; rintro e w1 ⟨rfl, h1, h2⟩; have R1 := Lib.hid h1; have G1 := Lib.hid h2; clear h1 h2)
  go_ret
  exact ⟨by go_num, R1.out, G1.out⟩
theorem nlKind_any (w : World) : Calls Tryd.prog 84 #[.agg #[]] w fun e w' => e = .returned (.int .u8 1) ∧ Below w.heap.size w w' := by
  go_enter Tryd.func84, Tryd.ntmps84
  go_wp2
  go_ret
  exact ⟨rfl, (Below.refl _ _).alloc (Nat.le_refl _) _⟩
theorem nbKind_any (w : World) : Calls Tryd.prog 99 #[.agg #[]] w fun e w' => e = .returned (.int .u8 2) ∧ Below w.heap.size w w' := by
  go_enter Tryd.func99, Tryd.ntmps99
  go_wp2
  go_ret
  exact ⟨rfl, (Below.refl _ _).alloc (Nat.le_refl _) _⟩

end Go.Proofs.YtnponjdnjkegmaaDoor
end

section
namespace Go.Proofs.YtnponjdnjkegmaaDoor
open Go.RowKit
set_option linter.unusedVariables false

def Runs (M : Act → World → Prop) : Exit → Act → World → Prop := Exit.then M (fun _ _ _ => False)
theorem Runs.out (M : Act → World → Prop) : ¬ LetsOut (Runs M) := fun ⟨_, _, h⟩ => h
theorem wp_held {P : Program} {id : Nat} {ops : Array Oper} {K : Act → World → Prop} {Q : Exit → Act → World → Prop} {a : Act} {w : World} (S : World → Prop) (M : Act → World → Prop)
    (hm : P.follows .mixedOrders = true)
    (h : wpAnyH P .any ops (Runs M) S ops.size (Array.replicate ops.size false) a w.drew) (h2 : ∀ a w, M a w → K a w) : (Code.region id ops true).wp P (Exit.then K Q) a w :=
  wp_mono (Q := Runs M) (wp_region_held hm h) (fun e a w h => by cases e <;> first | exact h2 _ _ h | exact False.elim h)
theorem cell_below {w w' : World} {p : Addr} {v : Value} (h : w.cell? p = some v) (hb : Below w.heap.size w w') : w'.cell? p = some v := (hb.cell (World.block_lt_of_cell? w p h)).trans h
end Go.Proofs.YtnponjdnjkegmaaDoor
end

section
namespace Go.Proofs.YtnponjdnjkegmaaDoor
open Go.RowKit
set_option linter.unusedVariables false

def ValEnd (base P : Nat) (w : World) (v : En) (l : List UInt8) (er : Int) (e : Ending) (w' : World) : Prop := e = .returned (valV v) ∧ Tk w' base P l er ∧ w.grownBy w' (some P)
theorem vinfo : (Tryd.prog.info? 52).map (fun i => (i.zero, i.size)) = some (some (.agg #[.string ⟨#[]⟩, .bool false, .int .i64 0, .int .i64 0]), 4) := by kernel_rfl
theorem zero_val (w : World) : (zeroValue 52).run Tryd.prog w = .ok (.agg #[.string ⟨#[]⟩, .bool false, .int .i64 0, .int .i64 0]) w := by
  obtain ⟨i, hi, h⟩ := Option.map_eq_some_iff.1 vinfo
  simp only [Prod.mk.injEq] at h
  simp [zeroValue, typeInfo, hi, h.1]
def stV4 (w : World) (B : Nat) (v0 v1 v2 v3 : Value) : World := (((w.setCell ⟨B, 0, none⟩ v0).setCell ⟨B, 1, none⟩ v1).setCell ⟨B, 2, none⟩ v2).setCell ⟨B, 3, none⟩ v3
theorem Has.setV {w : World} {B : Nat} {t : TypeId} {a0 a1 a2 a3 : Value} (h : Has w B t #[a0, a1, a2, a3]) (v0 v1 v2 v3 : Value) : Has (stV4 w B v0 v1 v2 v3) B t #[v0, v1, v2, v3] := by
  have := (((h.store 0 v0).store 1 v1).store 2 v2).store 3 v3
  simpa [stV4] using this
theorem setV_only (w : World) (B : Nat) (v0 v1 v2 v3 : Value) : w.grownBy (stV4 w B v0 v1 v2 v3) (some B) := only_store (only_store (only_store (only_store (only_refl w B) 0 v0) 1 v1) 2 v2) 3 v3
theorem only_new {a w w' : World} {g B : Nat} (h : a.grownBy w (some g)) (hb : w.grownBy w' (some B)) (hB : a.heap.size ≤ B) : a.grownBy w' (some g) :=
  ⟨hb.os.trans h.os, hb.tape.trans h.tape, hb.output.trans h.output, Nat.le_trans h.size hb.size, fun i hi hne => (hb.block i (Nat.lt_of_lt_of_le hi h.size) (by intro e; injection e with e; omega)).trans (h.block i hi hne)⟩
theorem val_end {w W w1 : World} {base P : Nat} {l : List UInt8} {er : Int} {a0 a1 a2 a3 : Value} (hb : Below w.heap.size w W) (hg : W.grownBy w1 (some P)) (hT : Tk w1 base P l er) (hV : Has w1 (w.heap.size + 1) 52 #[a0, a1, a2, a3]) (v0 v1 v2 v3 : Value) :
    Tk (stV4 w1 (w.heap.size + 1) v0 v1 v2 v3) base P l er ∧ w.grownBy (stV4 w1 (w.heap.size + 1) v0 v1 v2 v3) (some P) ∧ Has (stV4 w1 (w.heap.size + 1) v0 v1 v2 v3) (w.heap.size + 1) 52 #[v0, v1, v2, v3] :=
  ⟨hT.beside hV (by decide) (by decide) (setV_only _ _ _ _ _ _), only_new (only_trans (only_of_below hb (Nat.le_refl _)) hg) (setV_only _ _ _ _ _ _) (by omega), hV.setV _ _ _ _⟩
set_option maxHeartbeats 1000000 in
theorem nbTake_any (base P : Nat) (l : List UInt8) (er : Int) (w : World) (h : Tk w base P l er) :
    Calls Tryd.prog 101 #[.agg #[], .pointer (some ⟨P, 0, none⟩)] w (ValEnd base P w ⟨[], [], false, 0, ((stN l er 2).1 : Int)⟩ (stN l er 2).2.1 (stN l er 2).2.2) := by
  have hP : P < w.heap.size := by obtain ⟨A, c, hP, _⟩ := h; exact hP.lt
  obtain ⟨W, hW⟩ : ∃ W, (w.alloc (.cells #[] 90)).alloc (.cells #[.string ⟨#[]⟩, .bool false, .int .i64 0, .int .i64 0] 52) = W := ⟨_, rfl⟩
  have hb : Below w.heap.size w W := hW ▸ ((Below.refl _ w).alloc (Nat.le_refl _) _).alloc (by simp) _
  have HN := Lib.hid (ntakeNum_any base P l er W (h.below hb))
  have HV : Hid (Has W (w.heap.size + 1) 52 #[.string ⟨#[]⟩, .bool false, .int .i64 0, .int .i64 0]) := Lib.hid (by
    have := Has.made (w.alloc (.cells #[] 90)) 52 #[.string ⟨#[]⟩, .bool false, .int .i64 0, .int .i64 0]
    rw [hW] at this
    simpa using this)
  have HB := Lib.hid hb
  have HZ := Lib.hid zero_val
  obtain ⟨x, l1, er1, hst⟩ : ∃ x l1 er1, stN l er 2 = (x, l1, er1) := ⟨_, _, _, rfl⟩
  rw [hst] at HN ⊢
  simp only at HN ⊢
  clear hst h hb
  go_enter Tryd.func101, Tryd.ntmps101
  go_wp2_with (go_at_call 93; (try rw [hW]); refine HN.out.mono ?_; rintro r1 w1 ⟨rfl, h1, h2⟩; have R1 := Lib.hid h1; have G1 := Lib.hid h2; have V1 := HV.out.grown h2 (by intro e; injection e with e; omega); have f0 := V1.free 0; have c0 := V1.cell 0; have c1 := V1.cell 1; have c2 := V1.cell 2; have c3 := V1.cell 3; have f1 := V1.free 1; have f2 := V1.free 2; have f3 := V1.free 3; clear h1 h2)
  have hE := val_end HB.out G1.out R1.out V1 (.string ⟨#[]⟩) (.bool false) (.int .i64 0) (.int .i64 (x : Int))
  have q0 := hE.2.2.cell 0
  have q1 := hE.2.2.cell 1
  have q2 := hE.2.2.cell 2
  have q3 := hE.2.2.cell 3
  refine ⟨rfl, .agg #[.string ⟨#[]⟩, .bool false, .int .i64 0, .int .i64 (x : Int)], ?_, rfl, hE.1, hE.2.1⟩
  unfold stV4 at q0 q1 q2 q3
  simp [results, Tryd.f101, go_sem, q0, q1, q2, q3]

theorem box_take (w : World) (t : TypeId) (b : Bool) : ∃ W, (w.alloc (.cells #[] t)).alloc (.cells #[.string ⟨#[]⟩, .bool false, .int .i64 0, .int .i64 0] 52) = W ∧ Below w.heap.size w W ∧ Has W (w.heap.size + 1) 52 #[.string ⟨#[]⟩, .bool false, .int .i64 0, .int .i64 0] := by
  refine ⟨_, rfl, ((Below.refl _ w).alloc (Nat.le_refl _) _).alloc (by simp) _, ?_⟩
  have := Has.made (w.alloc (.cells #[] t)) 52 #[.string ⟨#[]⟩, .bool false, .int .i64 0, .int .i64 0]
  simpa using this
set_option maxHeartbeats 4000000 in
theorem nlTake_in (base P : Nat) (l : List UInt8) (er : Int) (w : World) (h : Tk w base P l er) (hl : l.length ≤ 1000000) (hm : (stN l er 1).1 = 0) :
    Calls Tryd.prog 86 #[.agg #[], .pointer (some ⟨P, 0, none⟩)] w
      (ValEnd base P w ⟨[], (stS (stN l er 1).2.1 (stN l er 1).2.2 (stN l er 1).2.1.length).1, false, 0, 0⟩ (stS (stN l er 1).2.1 (stN l er 1).2.2 (stN l er 1).2.1.length).2.1 (stS (stN l er 1).2.1 (stN l er 1).2.2 (stN l er 1).2.1.length).2.2) := by
  have hP : P < w.heap.size := by obtain ⟨A, c, hP, _⟩ := h; exact hP.lt
  obtain ⟨W, hW, hb, hv⟩ := box_take w 89 true
  have HN := Lib.hid (tNum_any base P l er 1 W (h.below hb))
  have HV := Lib.hid hv
  have HB := Lib.hid hb
  have HZ := Lib.hid zero_val
  have hle := stN_len l er 1
  obtain ⟨x, l1, er1, hst⟩ : ∃ x l1 er1, stN l er 1 = (x, l1, er1) := ⟨_, _, _, rfl⟩
  rw [hst] at HN hm hle ⊢
  simp only at HN hm hle ⊢
  subst hm
  have HR := Lib.hid (fun w1 (h : Tk w1 base P l1 er1) => tRest_any base P l1 er1 w1 h (by omega))
  obtain ⟨s, l2, er2, hst2⟩ : ∃ s l2 er2, stS l1 er1 l1.length = (s, l2, er2) := ⟨_, _, _, rfl⟩
  rw [hst2] at HR ⊢
  simp only at HR ⊢
  clear hst hst2 h hb hv hle
  go_enter Tryd.func86, Tryd.ntmps86
  go_wp2_with (first
    | (go_at_call 54; (try rw [hW]); refine HN.out.mono ?_; rintro r1 w1 ⟨rfl, h1, h2⟩; have R1 := Lib.hid h1; have G1 := Lib.hid h2; have V1 := Lib.hid (HV.out.grown h2 (by intro e; injection e with e; omega)); clear h1 h2)
    | (go_at_call 55; refine (HR.out _ R1.out).mono ?_; rintro r2 w2 ⟨⟨A2, cz, rfl, k1, k2, k3⟩, h1, h2⟩; have R2 := Lib.hid h1; have G2 := Lib.hid (only_trans G1.out h2); have V2 := V1.out.grown h2 (by intro e; injection e with e; omega); have f0 := V2.free 0; have c0 := V2.cell 0; have c1 := V2.cell 1; have c2 := V2.cell 2; have c3 := V2.cell 3; have f1 := V2.free 1; have f2 := V2.free 2; have f3 := V2.free 3; have hcv := str_row rfl k3 (n := s.length) (c := cz); clear h1 h2 k1 k2 k3))
  have hE := val_end HB.out G2.out R2.out V2 (.string ⟨s.toArray⟩) (.bool false) (.int .i64 0) (.int .i64 0)
  have q0 := hE.2.2.cell 0
  have q1 := hE.2.2.cell 1
  have q2 := hE.2.2.cell 2
  have q3 := hE.2.2.cell 3
  refine ⟨rfl, .agg #[.string ⟨s.toArray⟩, .bool false, .int .i64 0, .int .i64 0], ?_, rfl, hE.1, hE.2.1⟩
  unfold stV4 at q0 q1 q2 q3
  simp [results, Tryd.f86, go_sem, q0, q1, q2, q3]
set_option maxHeartbeats 4000000 in
theorem nlTake_far (base P : Nat) (l : List UInt8) (er : Int) (w : World) (h : Tk w base P l er) (hm : (stN l er 1).1 ≠ 0) :
    Calls Tryd.prog 86 #[.agg #[], .pointer (some ⟨P, 0, none⟩)] w
      (ValEnd base P w ⟨[], [], true, ((stN (stN l er 1).2.1 (stN l er 1).2.2 2).1 : Int), ((stN (stN (stN l er 1).2.1 (stN l er 1).2.2 2).2.1 (stN (stN l er 1).2.1 (stN l er 1).2.2 2).2.2 2).1 : Int)⟩
        (stN (stN (stN l er 1).2.1 (stN l er 1).2.2 2).2.1 (stN (stN l er 1).2.1 (stN l er 1).2.2 2).2.2 2).2.1 (stN (stN (stN l er 1).2.1 (stN l er 1).2.2 2).2.1 (stN (stN l er 1).2.1 (stN l er 1).2.2 2).2.2 2).2.2) := by
  have hP : P < w.heap.size := by obtain ⟨A, c, hP, _⟩ := h; exact hP.lt
  obtain ⟨W, hW, hb, hv⟩ := box_take w 89 true
  have HN := Lib.hid (tNum_any base P l er 1 W (h.below hb))
  have HV := Lib.hid hv
  have HB := Lib.hid hb
  have HZ := Lib.hid zero_val
  obtain ⟨x, l1, er1, hst⟩ : ∃ x l1 er1, stN l er 1 = (x, l1, er1) := ⟨_, _, _, rfl⟩
  rw [hst] at HN hm ⊢
  simp only at HN hm ⊢
  have hx0 : ((x : Int) == 0) = false := beq_false_of_ne (by omega)
  have HS := Lib.hid (fun w1 (h : Tk w1 base P l1 er1) => ntakeNum_any base P l1 er1 w1 h)
  obtain ⟨y, l2, er2, hst2⟩ : ∃ y l2 er2, stN l1 er1 2 = (y, l2, er2) := ⟨_, _, _, rfl⟩
  rw [hst2] at HS ⊢
  simp only at HS ⊢
  have HG := Lib.hid (fun w1 (h : Tk w1 base P l2 er2) => ntakeNum_any base P l2 er2 w1 h)
  obtain ⟨z, l3, er3, hst3⟩ : ∃ z l3 er3, stN l2 er2 2 = (z, l3, er3) := ⟨_, _, _, rfl⟩
  rw [hst3] at HG ⊢
  simp only at HG ⊢
  clear hst hst2 hst3 h hb hv hm
  go_enter Tryd.func86, Tryd.ntmps86
  go_wp2_with (first
    | (go_at_call 54; (try rw [hW]); refine HN.out.mono ?_; rintro r1 w1 ⟨rfl, h1, h2⟩; have R1 := Lib.hid h1; have G1 := Lib.hid h2; have V1 := Lib.hid (HV.out.grown h2 (by intro e; injection e with e; omega)); clear h1 h2)
    | (go_at_call 93; (with_reducible refine (HS.out _ R1.out).mono ?_); rintro r2 w2 ⟨rfl, h1, h2⟩; have R2 := Lib.hid h1; have G2 := Lib.hid (only_trans G1.out h2); have V2 := Lib.hid (V1.out.grown h2 (by intro e; injection e with e; omega)); clear h1 h2)
    | (go_at_call 93; (with_reducible refine (HG.out _ R2.out).mono ?_); rintro r2 w3 ⟨rfl, h1, h2⟩; have R3 := Lib.hid h1; have G3 := Lib.hid (only_trans G2.out h2); have V3 := V2.out.grown h2 (by intro e; injection e with e; omega); have f0 := V3.free 0; have c0 := V3.cell 0; have c1 := V3.cell 1; have c2 := V3.cell 2; have c3 := V3.cell 3; have f1 := V3.free 1; have f2 := V3.free 2; have f3 := V3.free 3; clear h1 h2))
  have hE := val_end HB.out G3.out R3.out V3 (.string ⟨#[]⟩) (.bool true) (.int .i64 (y : Int)) (.int .i64 (z : Int))
  have q0 := hE.2.2.cell 0
  have q1 := hE.2.2.cell 1
  have q2 := hE.2.2.cell 2
  have q3 := hE.2.2.cell 3
  refine ⟨rfl, .agg #[.string ⟨#[]⟩, .bool true, .int .i64 (y : Int), .int .i64 (z : Int)], ?_, rfl, hE.1, hE.2.1⟩
  unfold stV4 at q0 q1 q2 q3
  simp [results, Tryd.f86, go_sem, q0, q1, q2, q3]

end Go.Proofs.YtnponjdnjkegmaaDoor
end

section
namespace Go.Proofs.YtnponjdnjkegmaaDoor
open Go.RowKit
set_option linter.unusedVariables false

set_option maxRecDepth 100000 in
set_option maxHeartbeats 1000000 in
theorem growB_any (n : Nat) (hn : n ≤ 1000000) (w : World) :
    Calls Tryd.prog 40 #[.slice none 0 0, .int .i64 n] w fun e w' => ∃ v, e = .returned v ∧ w'.ownsRow w.heap.size 5 1 v 0 [] ∧ Below w.heap.size w w' := by
  obtain ⟨i0, hi, hz0, hz1, hz2⟩ := info_parts u8info
  rcases Nat.eq_zero_or_pos n with rfl | h0
  · go_enter Tryd.func40, Tryd.ntmps40
    go_wp2
    go_ret
    exact ⟨_, rfl, ⟨rfl, .inl ⟨rfl, rfl⟩⟩, Below.refl _ _⟩
  · have hA := fun ty => Lib.run_append_nil_zeros (P := Tryd.prog) w 31 3 ty 5 i0 (.int .u8 0) .i64 .i64 Tryd.underlying31 Tryd.underlying3 hi hz0 n h0 (by rw [hz1]; decide) (by omega) (by rw [hz2]; omega)
    have hge := grownCap_ge w n 0 5
    have hle := grownCap_le_maxLen w n 0 5 (by unfold maxLen; omega)
    have hO := World.ownsRow_made (base := w.heap.size) (e := 5) (size := 1) w.drew (Builtin.zeroCells (Value.int .u8 0).cells n ++ Builtin.zeroCells (Value.int .u8 0).cells (grownCap w n 0 5 - n)) (grownCap w n 0 5) (Nat.le_refl _) hle (by rw [Array.size_append, size_zeroCells, size_zeroCells]; show n * 1 + _ * 1 = _ * 1; omega)
    have hB : Below w.heap.size w (w.drew.alloc (.cells (Builtin.zeroCells (Value.int .u8 0).cells n ++ Builtin.zeroCells (Value.int .u8 0).cells (grownCap w n 0 5 - n)) 5)) := (Below.refl _ w).drew.alloc (Nat.le_refl _) _
    generalize (w.drew.alloc (.cells (Builtin.zeroCells (Value.int .u8 0).cells n ++ Builtin.zeroCells (Value.int .u8 0).cells (grownCap w n 0 5 - n)) 5)) = W1 at *
    generalize grownCap w n 0 5 = G at *
    have HA := Lib.hid hA
    have HO := Lib.hid hO
    have HB := Lib.hid hB
    have e0 : w.drew.heap.size = w.heap.size := rfl
    rw [e0] at HO
    unfold maxLen at hle
    clear hA hO hB e0
    go_enter Tryd.func40, Tryd.ntmps40
    go_wp2_with (at_builtin; refine Lib.wpList_append_run _ rfl _ _ _ _ rfl _ _ rfl rfl _ _ (HA.out _) ?_)
    go_ret
    exact ⟨_, rfl, HO.out, HB.out⟩

def flatH (q : List Hd) : List UInt8 := q.flatMap Hd.l
theorem flatH_snoc {q : List Hd} {k : Nat} (hk : k < q.length) : flatH (q.take (k + 1)) = flatH (q.take k) ++ (q[k]).l := by
  unfold flatH
  rw [List.take_succ_eq_append_getElem hk, List.flatMap_append]
  simp
set_option maxHeartbeats 4000000 in
theorem concatB_any (A : Option Addr) (n c : Nat) (q : List Hd) (w : World) (h : CellsA w A n c q) (hl : (flatH q).length ≤ 1000000) (hn : n ≤ 1000000) :
    Calls Tryd.prog 25 #[.slice A n c] w (Fresh w.heap.size (flatH q) w) := by
  have HA := Lib.hid h
  have HL := Lib.hid h.len
  have HG := Lib.hid (fun w => growB_any (flatH q).length hl w)
  have hmono : ∀ k, (flatH (q.take k)).length ≤ (flatH q).length := fun k => by
    have : flatH q = flatH (q.take k) ++ flatH (q.drop k) := by
      unfold flatH
      rw [← List.flatMap_append, List.take_append_drop]
    rw [this, List.length_append]
    omega
  have HM := Lib.hid hmono
  obtain ⟨i0, hi, hz0, hz1, hz2⟩ := info_parts u8info
  clear h hmono
  go_enter Tryd.func25, Tryd.ntmps25
  go_wp2
  go_loop [3, 11] (fun s i => ∃ k : Nat, k ≤ n ∧ i = .int .i64 k ∧ s = .int .i64 ((flatH (q.take k)).length : Int)) (fun _ i => n - (intOf i).toNat)
  case atStart => exact ⟨0, Nat.zero_le _, rfl, rfl⟩
  case round =>
    obtain ⟨k, hk, rfl, rfl⟩ := hrel
    by_cases hlt : k < n
    · have hkl : k < q.length := by rw [← HL.out]; exact hlt
      obtain ⟨g, off, rfl, hc⟩ := HA.out.at hkl
      have hlen := (HA.out.hdr hkl).len
      have h1 := congrArg List.length (flatH_snoc hkl)
      rw [List.length_append, ← hlen] at h1
      have h2 := HM.out (k + 1)
      rw [h1] at h2
      have HS := Lib.hid h1
      generalize (flatH (q.take k)).length = x at *
      generalize q[k] = y at *
      have hb : x + y.n ≤ 1000000 := by omega
      have hge : ¬ ((x : Int) + (y.n : Int) < 0) := by omega
      clear h1 h2 hkl hlen
      go_wp2
      go_round
      case rel => exact ⟨k + 1, by omega, by go_num, by rw [HS.out]; go_num⟩
      case measure => simp [intOf]; omega
    · obtain rfl : k = n := by omega
      have e : q.take k = q := List.take_of_length_le (by rw [← HL.out]; exact Nat.le_refl _)
      rw [e]
      go_wp2_with (go_at_call 40; (with_reducible refine (HG.out _).mono ?_); rintro r1 w1 ⟨v1, rfl, o1, b1⟩; have O1 := Lib.hid o1; have B1 := Lib.hid b1; clear o1 b1)
      go_loopw [6, 27] (fun v i wr => ∃ m : Nat, m ≤ k ∧ i = .int .i64 m ∧ wr.ownsRow w.heap.size 5 1 v (flatH (q.take m)).length ((flatH (q.take m)).map byteV) ∧ Below w.heap.size w wr) (fun _ i _ => k - (intOf i).toNat)
      case atStart => exact ⟨0, Nat.zero_le _, rfl, O1.out, B1.out⟩
      case round =>
        obtain ⟨m, hm, rfl, ho, hb⟩ := hrel
        have HO := Lib.hid ho
        have HB := Lib.hid hb
        clear ho hb
        by_cases hlt2 : m < k
        · have hkl : m < q.length := by rw [← HL.out]; exact hlt2
          have hC := HA.out.below HB.out
          obtain ⟨g, off, rfl, hc⟩ := hC.at hkl
          have hy := hC.hdr hkl
          have h1 := flatH_snoc hkl
          have h2 := HM.out (m + 1)
          rw [h1, List.length_append, ← hy.len] at h2
          have HS := Lib.hid h1
          generalize flatH (q.take m) = x at *
          generalize q[m] = y at *
          have HY := Lib.hid hy
          have HLX : Hid ((flatH (q.take (m + 1))).length = x.length + y.n) := Lib.hid (by rw [HS.out, List.length_append, ← HY.out.len])
          have HMX : Hid ((flatH (q.take (m + 1))).map byteV = x.map byteV ++ y.l.map byteV) := Lib.hid (by rw [HS.out, List.map_append])
          obtain ⟨X, hX⟩ : ∃ X, x.length = X := ⟨_, rfl⟩
          rw [hX] at HO h2 HLX
          clear hX hy h1 hkl hC
          go_wp2_with (at_builtin; refine wpList_append_bytes rfl _ _ 31 rfl w.heap.size 5 i0 Tryd.underlying31 hi hz0 hz1 hz2 _ X _ rfl HO.out y.a y.n y.c y.l rfl HY.out.len HY.out.none_ HY.out.reads ?_ ?_ ?_; (omega); (exact HB.out.size); intro v4 w4 h7 h8; have O4 := Lib.hid h7; have B4 := Lib.hid (HB.out.grown h8 HB.out.size (fun k hk => (HO.out.lt k hk).1)); clear h7 h8)
          go_roundw
          case rel => exact ⟨m + 1, by omega, by go_num, by rw [HLX.out, HMX.out]; exact O4.out, B4.out⟩
          case measure => simp [intOf]; omega
        · obtain rfl : m = k := by omega
          have e : q.take m = q := List.take_of_length_le (by rw [← HL.out]; exact Nat.le_refl _)
          rw [e] at HO
          obtain ⟨w3, hw3⟩ : ∃ w3 : World, w3 = wr := ⟨_, rfl⟩
          subst hw3
          obtain ⟨A2, c2, rfl, hc1, hc2⟩ := own_slice HO.out
          have HC1 := Lib.hid hc1
          have HC2 := Lib.hid hc2
          clear hc1 hc2
          go_wp2
          go_ret
          exact ⟨A2, c2, rfl, HC1.out, HC2.out, Row.of_own HO.out, HB.out⟩

end Go.Proofs.YtnponjdnjkegmaaDoor
end
