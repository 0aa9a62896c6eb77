import Derived.Test.YtdoabcbembinjaaDoorJ00
import Derived.Test.YtdoabcbembinjaaDoorJ01
/- Of a claim's texts, joined: Reft. No statement but in the last. -/
namespace Go.Proofs.YtdoabcbembinjaaDoor
open Go.RowKit
set_option linter.unusedVariables false

theorem ext_take (l : List UInt8) (n : Nat) : (⟨l.toArray⟩ : ByteArray).extract 0 n = ⟨(l.take n).toArray⟩ := by
  apply ByteArray.ext
  simp [ByteArray.data_extract]
theorem ext_drop (l : List UInt8) (n : Nat) : (⟨l.toArray⟩ : ByteArray).extract n l.length = ⟨(l.drop n).toArray⟩ := by
  apply ByteArray.ext
  simp [ByteArray.data_extract]
  exact List.take_of_length_le (by simp)

def RT (w : World) (Q : Nat) (l : List UInt8) (er : Int) : Prop := Has w Q 100 #[.string ⟨l.toArray⟩, .int .i64 er]
def RStrEnd (Q : Nat) (w : World) (s l : List UInt8) (er : Int) (e : Ending) (w' : World) : Prop := e = .returned (.string ⟨s.toArray⟩) ∧ RT w' Q l er ∧ w.grownBy w' (some Q)
def RNumEnd (Q : Nat) (w : World) (x : Nat) (l : List UInt8) (er : Int) (e : Ending) (w' : World) : Prop := e = .returned (.int .u64 (x : Int)) ∧ RT w' Q l er ∧ w.grownBy w' (some Q)

theorem RT.fail {w : World} {Q : Nat} {l : List UInt8} {er : Int} (h : RT w Q l er) (er' : Int) : RT (w.setCell ⟨Q, 1, none⟩ (.int .i64 er')) Q l er' := by
  have := Has.store h 1 (.int .i64 er')
  simpa [RT] using this
theorem RT.cut {w : World} {Q : Nat} {l : List UInt8} {er : Int} (h : RT w Q l er) (l' : List UInt8) : RT (w.setCell ⟨Q, 0, none⟩ (.string ⟨l'.toArray⟩)) Q l' er := by
  have := Has.store h 0 (.string ⟨l'.toArray⟩)
  simpa [RT] using this

set_option maxRecDepth 100000 in
theorem rsome_any (Q : Nat) (l : List UInt8) (er : Int) (n : Nat) (w : World) (h : RT w Q l er) (hl : l.length ≤ 1000000) :
    Calls Tryd.prog 61 #[.pointer (some ⟨Q, 0, none⟩), .int .i64 n] w (RStrEnd Q w (stS l er n).1 (stS l er n).2.1 (stS l er n).2.2) := by
  have c0 := Has.cell0 h
  have c1 := Has.cell1 h
  have f0 := Has.free h 0
  have f1 := Has.free h 1
  have HT := Lib.hid h
  clear h
  by_cases h0 : er = 0
  · subst h0
    by_cases hn : l.length < n
    · simp only [stS, ne_eq, not_true, if_false, if_pos hn]
      have d1 : decide (l.length < n) = true := by simp; omega
      go_enter Tryd.func61, Tryd.ntmps61
      go_wp2
      go_ret
      exact ⟨rfl, HT.out.fail 10, only_store (only_refl w Q) 1 _⟩
    · simp only [stS, ne_eq, not_true, if_false, if_neg hn]
      have d1 : decide (l.length < n) = false := by simp; omega
      go_enter Tryd.func61, Tryd.ntmps61
      go_wp2
      go_ret
      refine ⟨ret_str (ext_take l n), ?_, only_store (only_refl w Q) 0 _⟩
      rw [ext_drop]
      exact HT.out.cut (l.drop n)
  · simp only [stS, ne_eq, h0, not_false_eq_true, if_true]
    have q1 : (er == 0) = false := by simpa using h0
    have q2 : (er != 0) = true := by simpa using h0
    clear h0
    go_enter Tryd.func61, Tryd.ntmps61
    go_wp2
    go_ret
    exact ⟨rfl, HT.out, only_refl w Q⟩

theorem numOf_eq (l : List UInt8) (k : Nat) (c : UInt8) (h : l[k]? = some c) : numOf (l.take (k + 1)) = numOf (l.take k) * 256 + c.toNat := by rw [take_more h, numOf_snoc]

set_option maxRecDepth 100000 in
set_option maxHeartbeats 1000000 in
theorem rtNum_any (Q : Nat) (l : List UInt8) (er size : Int) (w : World) (h : RT w Q l er) (hl : l.length ≤ 1000000) :
    Calls Tryd.prog 43 #[.pointer (some ⟨Q, 0, none⟩), .int .i64 size] w (RNumEnd Q w (stN l er size).1 (stN l er size).2.1 (stN l er size).2.2) := by
  have c0 := Has.cell0 h
  have c1 := Has.cell1 h
  have f1 := Has.free h 1
  have HT := Lib.hid h
  clear h
  by_cases h0 : er = 0
  · subst h0
    by_cases hs : size < 1 ∨ 8 < size
    · simp only [stN, ne_eq, not_true, if_false, if_pos hs]
      rcases hs with hs | hs
      · go_enter Tryd.func43, Tryd.ntmps43
        go_wp2
        go_ret
        exact ⟨rfl, HT.out.fail 1, only_store (only_refl w Q) 1 _⟩
      · have hs1 : 1 ≤ size := by omega
        go_enter Tryd.func43, Tryd.ntmps43
        go_wp2
        go_ret
        exact ⟨rfl, HT.out.fail 1, only_store (only_refl w Q) 1 _⟩
    · have hs1 : 1 ≤ size := by omega
      have hs8 : size ≤ 8 := by omega
      have hr : stN l 0 size = (numOf (stS l 0 size.toNat).1, (stS l 0 size.toNat).2.1, (stS l 0 size.toNat).2.2) := by
        by_cases hlt : (l.length : Int) < size
        · have hlt2 : l.length < size.toNat := by omega
          simp only [stN, stS, ne_eq, not_true, if_false, if_neg hs, if_pos hlt, if_pos hlt2]
          rfl
        · have hlt2 : ¬ l.length < size.toNat := by omega
          simp only [stN, stS, ne_eq, not_true, if_false, if_neg hs, if_neg hlt, if_neg hlt2]
      rw [hr]
      obtain ⟨n, rfl⟩ : ∃ n : Nat, size = (n : Int) := ⟨size.toNat, by omega⟩
      clear hr hs
      rw [Int.toNat_natCast]
      have ht : (stS l 0 n).1.length ≤ 8 := by
        unfold stS
        rw [if_neg (by simp)]
        split
        · simp
        · simp; omega
      have HK := Lib.hid (rsome_any Q l 0 n w HT.out hl)
      obtain ⟨t, l1, er1, hst⟩ : ∃ t l1 er1, stS l 0 n = (t, l1, er1) := ⟨_, _, _, rfl⟩
      rw [hst] at HK ht ⊢
      simp only at HK ht ⊢
      clear hst
      go_enter Tryd.func43, Tryd.ntmps43
      go_wp2_with (go_at_call 61; refine HK.out.mono ?_; rintro e w1 ⟨rfl, h1, h2⟩; have R1 := Lib.hid h1; have G1 := Lib.hid h2; clear h1 h2)
      go_loop [6, 7] (fun x i => ∃ k : Nat, k ≤ t.length ∧ i = .int .i64 k ∧ x = .int .u64 (numOf (t.take k) : Int)) (fun _ i => t.length - (intOf i).toNat)
      case atStart => exact ⟨0, Nat.zero_le _, rfl, rfl⟩
      case round =>
        obtain ⟨k, hk, rfl, rfl⟩ := hrel
        by_cases hlt : k < t.length
        · obtain ⟨d, hd⟩ : ∃ d, t[k]? = some d := ⟨_, List.getElem?_eq_getElem hlt⟩
          have hb := numOf_take_lt t k 7 (by omega)
          have HN := Lib.hid (numOf_eq t k d hd)
          have hd2 := d.toNat_lt
          have htk : t[k] = d := by rw [List.getElem?_eq_getElem hlt] at hd; injection hd
          have HD := Lib.hid hd
          clear hd
          generalize numOf (t.take k) = x at hb HN
          have HK2 := Lib.hid htk
          clear htk
          go_wp2
          go_round
          case rel =>
            refine ⟨k + 1, by omega, by go_num, u64_eq ?_⟩
            have e : (⟨t.toArray⟩ : ByteArray)[k] = d := HK2.out
            rw [e, IntWalk.u64_in (d.toNat : Int) (by omega), IntWalk.u64_in _ (by omega), HN.out]
            omega
          case measure => simp [intOf]; omega
        · go_wp2
          go_ret
          exact ⟨ret_u64 (by rw [List.take_of_length_le (by omega)]), R1.out, G1.out⟩
  · simp only [stN, ne_eq, h0, not_false_eq_true, if_true]
    have q1 : (er == 0) = false := by simpa using h0
    have q2 : (er != 0) = true := by simpa using h0
    clear h0
    go_enter Tryd.func43, Tryd.ntmps43
    go_wp2
    go_ret
    exact ⟨rfl, HT.out, only_refl w Q⟩

end Go.Proofs.YtdoabcbembinjaaDoor
