import Derived.Test.YthcjledpjlpfaaaDoorJ00
import Derived.Deep.DeepFit
import Derived.ProofKit
import Derived.OpenShut
import Derived.ShutString
import Derived.ChangeOld
import Derived.Deep.SlicePairs
import Derived.Test.YthcjledpjlpfaaaDoorCards
import Derived.Test.YthcjledpjlpfaaaDoorTie
import Derived.LaidMore
import Derived.SevenTiedAt
import Derived.Stop.Joined
/- Of a claim's texts, joined: Oct Ocu Ocm Crcc Args Laid Lay10. No statement but in the last. -/
section
namespace Go.Proofs.YthcjledpjlpfaaaDoor
open Go.RowKit

/-! the Taker's errors -/
theorem err_some (P : Nat) (v : Value) (er : Int) (w : World) (h : Has w P 126 #[v, .int .i64 er]) : Calls Tryd.prog 74 #[.pointer (some ⟨P, 0, none⟩)] w fun e w' => e = .returned (.int .i64 er) ∧ w = w' := by
  have hc := h.cell1
  go_enter Tryd.func74, Tryd.ntmps74
  go_wp2
  go_ret
  exact ⟨rfl, rfl⟩

theorem fail_first (P : Nat) (v : Value) (er : Int) (w : World) (h : Has w P 126 #[v, .int .i64 0]) :
    Calls Tryd.prog 68 #[.pointer (some ⟨P, 0, none⟩), .int .i64 er] w fun e w' => e = .returned (.tuple #[]) ∧ w.setCell ⟨P, 1, none⟩ (.int .i64 er) = w' := by
  have hc := h.cell1
  have hf := h.free 1
  go_enter Tryd.func68, Tryd.ntmps68
  go_wp2_with (go_at_call 74; refine (err_some P v 0 _ h).mono ?_; rintro e w' ⟨rfl, rfl⟩)
  go_end0
  exact ⟨rfl, rfl⟩
theorem fail_again (P : Nat) (v : Value) (er0 er : Int) (w : World) (h : Has w P 126 #[v, .int .i64 er0]) (h0 : (er0 == 0) = false) :
    Calls Tryd.prog 68 #[.pointer (some ⟨P, 0, none⟩), .int .i64 er] w fun e w' => e = .returned (.tuple #[]) ∧ w = w' := by
  go_enter Tryd.func68, Tryd.ntmps68
  go_wp2_with (go_at_call 74; refine (err_some P v er0 _ h).mono ?_; rintro e w' ⟨rfl, rfl⟩)
  go_end0
  exact ⟨rfl, rfl⟩

theorem done_bad (P : Nat) (v : Value) (er : Int) (w : World) (h : Has w P 126 #[v, .int .i64 er]) (h0 : (er == 0) = false) :
    Calls Tryd.prog 73 #[.pointer (some ⟨P, 0, none⟩)] w fun e w' => e = .returned (.int .i64 er) ∧ w = w' := by
  have h1 : (er != 0) = true := by simp at h0 ⊢; exact h0
  go_enter Tryd.func73, Tryd.ntmps73
  go_wp2_with (go_at_call 74; refine (err_some P v er _ h).mono ?_; rintro e w' ⟨rfl, rfl⟩)
  go_ret
  exact ⟨rfl, rfl⟩
theorem done_left (P : Nat) (A : Option Addr) (n c : Nat) (w : World) (h : Has w P 126 #[.slice A n c, .int .i64 0]) (hn : 0 < n) :
    Calls Tryd.prog 73 #[.pointer (some ⟨P, 0, none⟩)] w fun e w' => e = .returned (.int .i64 11) ∧ w = w' := by
  have hc := h.cell0
  have h1 : (0 : Int) < (n : Int) := by omega
  go_enter Tryd.func73, Tryd.ntmps73
  go_wp2_with (go_at_call 74; refine (err_some P _ 0 _ h).mono ?_; rintro e w' ⟨rfl, rfl⟩)
  go_ret
  exact ⟨rfl, rfl⟩
theorem done_ok (P : Nat) (A : Option Addr) (c : Nat) (w : World) (h : Has w P 126 #[.slice A 0 c, .int .i64 0]) :
    Calls Tryd.prog 73 #[.pointer (some ⟨P, 0, none⟩)] w fun e w' => e = .returned (.int .i64 0) ∧ w = w' := by
  have hc := h.cell0
  go_enter Tryd.func73, Tryd.ntmps73
  go_wp2_with (go_at_call 74; refine (err_some P _ 0 _ h).mono ?_; rintro e w' ⟨rfl, rfl⟩)
  go_ret
  exact ⟨rfl, rfl⟩

/-! the three closures -/

def numOf (l : List UInt8) : Nat := l.foldl (fun x c => x * 256 + c.toNat) 0
theorem numOf_snoc (l : List UInt8) (c : UInt8) : numOf (l ++ [c]) = numOf l * 256 + c.toNat := by simp [numOf]
theorem numOf_lt (l : List UInt8) : ∀ x m : Nat, x < 256 ^ m → l.foldl (fun x c => x * 256 + c.toNat) x < 256 ^ (m + l.length) := by
  induction l with
  | nil => intro x m h; simpa using h
  | cons c l ih =>
    intro x m h
    have hc := c.toNat_lt
    have := ih (x * 256 + c.toNat) (m + 1) (by rw [Nat.pow_succ]; omega)
    rw [List.length_cons, Nat.add_comm l.length 1, ← Nat.add_assoc]
    exact this
theorem numOf_take_lt (l : List UInt8) (k m : Nat) (hk : k ≤ m) : numOf (l.take k) < 256 ^ m := by
  have h := numOf_lt (l.take k) 0 0 (by simp)
  have h2 : 256 ^ (0 + (l.take k).length) ≤ 256 ^ m := Nat.pow_le_pow_right (by omega) (by simp; omega)
  exact Nat.lt_of_lt_of_le h h2
theorem or_join (x : Nat) (d : UInt8) (hx : x < 256 ^ 7) : bits .or .u64 ((x : Int) * 256) (d.toNat : Int) = ((x * 256 + d.toNat : Nat) : Int) := by
  have hd := d.toNat_lt
  have h : ((x : Int) * 256) = ((x * 256 : Nat) : Int) := by omega
  rw [h, u64_or_nat _ _ (by omega) (by omega)]
  have := Nat.two_pow_add_eq_or_of_lt (b := d.toNat) (i := 8) (by omega) x
  have h2 : 2 ^ 8 * x = x * 256 := by omega
  rw [h2] at this
  rw [this]
set_option maxHeartbeats 400000 in
theorem cloN_any (A : Option Addr) (n c : Nat) (l : List UInt8) (w : World) (hn : n = l.length) (h8 : n ≤ 8) (h : Reads w A (l.map byteV)) :
    Calls Tryd.prog 70 #[.slice A n c] w fun e w' => e = .returned (.int .u64 (numOf l : Int)) ∧ w = w' := by
  have HN := Lib.hid hn
  have HR := Lib.hid h
  clear hn h
  go_enter Tryd.func70, Tryd.ntmps70
  go_wp2
  go_loop [3, 8] (fun x i => ∃ k : Nat, k ≤ n ∧ i = .int .i64 k ∧ x = .int .u64 (numOf (l.take k) : Int)) (fun _ i => n - (intOf i).toNat)
  case atStart => exact ⟨0, Nat.zero_le _, rfl, rfl⟩
  case round =>
    obtain ⟨k, hk, rfl, rfl⟩ := hrel
    by_cases hlt : k < n
    · have hkl : k < l.length := by have := HN.out; omega
      obtain ⟨b, off, hA, hcell⟩ := HR.out (by simp; omega)
      obtain ⟨d, hd⟩ : ∃ d, l[k]? = some d := ⟨_, List.getElem?_eq_getElem hkl⟩
      have hc := hcell k (byteV d) (by simp [hd])
      unfold byteV at hc
      clear hcell
      have HD := Lib.hid hd
      clear hd
      subst hA
      have hb := numOf_take_lt l k 7 (by omega)
      have hd2 := d.toNat_lt
      generalize hx : numOf (l.take k) = x at hb
      have HX := Lib.hid hx
      clear hx
      go_wp2
      go_round
      case rel => exact ⟨k + 1, by omega, by go_num, by rw [or_join x d hb, take_more HD.out, numOf_snoc, HX.out]⟩
      case measure => simp [intOf]; omega
    · go_wp2
      go_ret
      exact ⟨ret_u64 (by rw [List.take_of_length_le (by have := HN.out; omega)]), rfl⟩

theorem clone_nil (c : Nat) (w : World) : Calls Tryd.prog 66 #[.slice none 0 c] w fun e w' => e = .returned (.slice none 0 0) ∧ w = w' := by
  have hq := eq_nil_yes 0 c
  go_enter Tryd.func66, Tryd.ntmps66
  go_wp2
  go_ret
  exact ⟨rfl, rfl⟩
theorem clone_some (a : Addr) (c : Nat) (l : List UInt8) (w : World) (hl : l.length ≤ 1000000) (h : Reads w (some a) (l.map byteV)) :
    Calls Tryd.prog 66 #[.slice (some a) l.length c] w (Fresh w.heap.size l w) := by
  have hcl : ∀ j u, (l.map byteV)[j]? = some u → (w.alloc (.cells #[] 5)).cell? (a.add j) = some u := by
    intro j u hj
    obtain ⟨g, off, hA, hc⟩ := h (by
      have := (List.getElem?_eq_some_iff.1 hj).1
      omega)
    injection hA with hA
    subst hA
    rw [add_plain]
    have hc2 := hc j u hj
    exact (World.cell?_alloc_lt w _ _ (World.block_lt_of_cell? w _ hc2)).trans hc2
  have HC := Lib.hid hcl
  have HR := Lib.hid h
  clear h hcl
  obtain ⟨i0, hi, hz0, hz1, hz2⟩ := info_parts u8info
  have hq := eq_nil_no a l.length c
  go_enter Tryd.func66, Tryd.ntmps66
  go_wp2_with (at_builtin; refine wpList_append_own _ rfl _ _ 32 rfl w.heap.size 5 i0 (.int .u8 0) 1 1 Tryd.underlying32 hi hz0 hz1 hz2 rfl (by decide) _ _ _ rfl (own_new w) a l.length c (l.map byteV) rfl (by simp) HC.out (one_byteV l) (by unfold maxLen; omega) (by omega) (by simp) ?_; intro v' w1 hown hgrow hnil; have HO := Lib.hid hown; have HG := Lib.hid hgrow; clear hown hgrow hnil)
  go_ret
  have ho := HO.out
  rw [Nat.zero_add, List.nil_append] at ho
  exact fresh_of ho ((Below.refl _ w).alloc (Nat.le_refl _) _) HG.out (by simp)

theorem clone_any (A : Option Addr) (c : Nat) (l : List UInt8) (w : World) (hl : l.length ≤ 1000000) (h : Reads w A (l.map byteV)) :
    Calls Tryd.prog 66 #[.slice A l.length c] w (Fresh w.heap.size l w) := by
  rcases A with _ | a
  · have h0 : l = [] := by
      rcases l with _ | ⟨d, l⟩
      · rfl
      · obtain ⟨g, off, ha, _⟩ := h (by simp)
        cases ha
    subst h0
    exact (clone_nil c w).mono fun e w' ⟨he, hw⟩ => ⟨none, 0, by rw [he]; rfl, Nat.le_refl _, Nat.zero_le _, Row.empty, by rw [hw]; exact Below.refl _ _⟩
  · exact clone_some a c l w hl h

theorem cloB_any (A : Option Addr) (c : Nat) (l : List UInt8) (w : World) (hl : l.length ≤ 1000000) (h : Reads w A (l.map byteV)) :
    Calls Tryd.prog 77 #[.slice A l.length c] w (Fresh w.heap.size l w) := by
  have HK := Lib.hid (clone_any A c l w hl h)
  clear h
  go_enter Tryd.func77, Tryd.ntmps77
  go_wp2_with (go_at_call 66; refine HK.out.mono ?_; rintro e w' ⟨A', c', rfl, h1, h2, h3, h4⟩; have H3 := Lib.hid h3; have H4 := Lib.hid h4; clear h3 h4)
  go_ret
  exact ⟨A', c', rfl, h1, h2, H3.out, H4.out⟩

def Tk (w : World) (base P : Nat) (l : List UInt8) (er : Int) : Prop :=
  ∃ A c, Has w P 126 #[.slice A l.length c, .int .i64 er] ∧ base ≤ P ∧ Row w 5 base A (l.map byteV) ∧ l.length ≤ c ∧ c ≤ maxLen
def Made (W : Nat) (l : List UInt8) (w : World) (e : Ending) (w' : World) : Prop := ∃ P, e = .returned (.pointer (some ⟨P, 0, none⟩)) ∧ Tk w' W P l 0 ∧ Below W w w'

theorem Take_any (A : Option Addr) (c : Nat) (l : List UInt8) (w : World) (hl : l.length ≤ 1000000) (h : Reads w A (l.map byteV)) :
    Calls Tryd.prog 55 #[.slice A l.length c] w (Made w.heap.size l w) := by
  have HK := Lib.hid (clone_any A c l w hl h)
  clear h
  go_enter Tryd.func55, Tryd.ntmps55
  go_wp2_with (go_at_call 66; refine HK.out.mono ?_; rintro e w1 ⟨A', c', rfl, h1, h2, h3, h4⟩; have H3 := Lib.hid h3; have H4 := Lib.hid h4; clear h3 h4)
  go_ret
  exact ⟨_, rfl, ⟨A', c', Has.made _ _ _, H4.out.size, H3.out.alloc _, h1, h2⟩, H4.out.alloc H4.out.size _⟩

end Go.Proofs.YthcjledpjlpfaaaDoor
end

section
namespace Go.Proofs.YthcjledpjlpfaaaDoor
open Go.RowKit
set_option linter.unusedVariables false


theorem takenN_bad (P : Nat) (v : Value) (er : Int) (n : Int) (w : World) (h : Has w P 126 #[v, .int .i64 er]) (h0 : (er == 0) = false) :
    Calls Tryd.prog 69 #[.pointer (some ⟨P, 0, none⟩), .int .i64 n, .func (.func 70) #[] #[]] w fun e w' => e = .returned (.int .u64 0) ∧ w = w' := by
  have h1 : (er != 0) = true := by simp at h0 ⊢; exact h0
  go_enter Tryd.func69, Tryd.ntmps69
  go_wp2_with (go_at_call 74; refine (err_some P v er _ h).mono ?_; rintro e w' ⟨rfl, rfl⟩)
  go_ret
  exact ⟨rfl, rfl⟩
theorem takenN_short (P : Nat) (A : Option Addr) (m c : Nat) (n : Int) (w : World) (h : Has w P 126 #[.slice A m c, .int .i64 0]) (hn : (m : Int) < n) :
    Calls Tryd.prog 69 #[.pointer (some ⟨P, 0, none⟩), .int .i64 n, .func (.func 70) #[] #[]] w fun e w' => e = .returned (.int .u64 0) ∧ w.setCell ⟨P, 1, none⟩ (.int .i64 10) = w' := by
  have hc := h.cell0
  go_enter Tryd.func69, Tryd.ntmps69
  go_wp2_with (first | (go_at_call 74; refine (err_some P _ 0 _ h).mono ?_; rintro e w' ⟨rfl, rfl⟩) | (go_at_call 68; refine (fail_first P _ 10 _ h).mono ?_; rintro e w' ⟨rfl, rfl⟩))
  go_ret
  exact ⟨rfl, rfl⟩
set_option maxHeartbeats 400000 in
theorem takenN_some (P : Nat) (A : Option Addr) (c k base : Nat) (l : List UInt8) (w : World) (h : Has w P 126 #[.slice A l.length c, .int .i64 0]) (hR : Row w 5 base A (l.map byteV)) (hk : k ≤ l.length) (h8 : k ≤ 8) (hlc : l.length ≤ c) (hcm : c ≤ maxLen) :
    Calls Tryd.prog 69 #[.pointer (some ⟨P, 0, none⟩), .int .i64 k, .func (.func 70) #[] #[]] w fun e w' => e = .returned (.int .u64 (numOf (l.take k) : Int)) ∧ w.setCell ⟨P, 0, none⟩ (.slice (if c = k then A else A.map (·.add k)) (l.length - k) (c - k)) = w' := by
  have hc := h.cell0
  have hf := h.free 0
  unfold maxLen at hcm
  have HR := Lib.hid hR
  have HT : Hid (∀ k : Nat, Reads (w.setCell ⟨P, 0, none⟩ (.slice (if c = k then A else A.map (·.add k)) (l.length - k) (c - k))) A ((l.take k).map byteV)) := by
    intro k
    have := (hR.store h (by decide) 0 (.slice (if c = k then A else A.map (·.add k)) (l.length - k) (c - k))).reads.take k
    rw [List.map_take]
    exact this
  clear hR
  go_enter Tryd.func69, Tryd.ntmps69
  go_wp2_with (first | (go_at_call 74; refine (err_some P _ 0 _ h).mono ?_; rintro e w' ⟨rfl, rfl⟩) | (go_at_call 70; refine (cloN_any A k _ (l.take k) _ (by simp; omega) (by omega) (HT.out k)).mono ?_; rintro e w' ⟨rfl, rfl⟩))
  all_goals (go_ret; exact ⟨rfl, rfl⟩)

theorem takenB_bad (P : Nat) (v : Value) (er : Int) (n : Int) (w : World) (h : Has w P 126 #[v, .int .i64 er]) (h0 : (er == 0) = false) :
    Calls Tryd.prog 76 #[.pointer (some ⟨P, 0, none⟩), .int .i64 n, .func (.func 77) #[] #[]] w fun e w' => e = .returned (.slice none 0 0) ∧ w = w' := by
  have h1 : (er != 0) = true := by simp at h0 ⊢; exact h0
  go_enter Tryd.func76, Tryd.ntmps76
  go_wp2_with (go_at_call 74; refine (err_some P v er _ h).mono ?_; rintro e w' ⟨rfl, rfl⟩)
  go_ret
  exact ⟨rfl, rfl⟩
set_option maxHeartbeats 400000 in
theorem takenB_some (P : Nat) (A : Option Addr) (c base : Nat) (l : List UInt8) (w : World) (h : Has w P 126 #[.slice A l.length c, .int .i64 0]) (hR : Row w 5 base A (l.map byteV)) (hl : l.length ≤ 1000000) (hlc : l.length ≤ c) (hcm : c ≤ maxLen) :
    Calls Tryd.prog 76 #[.pointer (some ⟨P, 0, none⟩), .int .i64 l.length, .func (.func 77) #[] #[]] w (Fresh w.heap.size l (w.setCell ⟨P, 0, none⟩ (.slice (if c = l.length then A else A.map (·.add l.length)) 0 (c - l.length)))) := by
  have hc := h.cell0
  have hf := h.free 0
  unfold maxLen at hcm
  have HT : Hid (Reads (w.setCell ⟨P, 0, none⟩ (.slice (if c = l.length then A else A.map (·.add l.length)) 0 (c - l.length))) A (l.map byteV)) := (hR.store h (by decide) 0 _).reads
  clear hR
  by_cases hcl : c = l.length
  · subst hcl
    simp only [if_pos, Nat.sub_self] at HT ⊢
    go_enter Tryd.func76, Tryd.ntmps76
    go_wp2_with (first | (go_at_call 74; refine (err_some P _ 0 _ h).mono ?_; rintro e w' ⟨rfl, rfl⟩) | (go_at_call 77; refine (cloB_any A _ l _ hl HT.out).mono ?_; rintro e w' ⟨A', c', rfl, h1, h2, h3, h4⟩; have H3 := Lib.hid h3; have H4 := Lib.hid h4; clear h3 h4))
    go_ret
    exact ⟨A', c', rfl, h1, h2, (H3.out).low (by simp), (H4.out).mono (by simp)⟩
  · simp only [if_neg hcl] at HT ⊢
    have hcl2 : ¬ (c = l.length) := hcl
    go_enter Tryd.func76, Tryd.ntmps76
    go_wp2_with (first | (go_at_call 74; refine (err_some P _ 0 _ h).mono ?_; rintro e w' ⟨rfl, rfl⟩) | (go_at_call 77; refine (cloB_any A _ l _ hl HT.out).mono ?_; rintro e w' ⟨A', c', rfl, h1, h2, h3, h4⟩; have H3 := Lib.hid h3; have H4 := Lib.hid h4; clear h3 h4))
    go_ret
    exact ⟨A', c', rfl, h1, h2, (H3.out).low (by simp), (H4.out).mono (by simp)⟩

/-! What the Taker's steps do to (what is left, the error). -/
def stS (l : List UInt8) (er : Int) (n : Nat) : List UInt8 × List UInt8 × Int := if er ≠ 0 then ([], l, er) else if l.length < n then ([], l, 10) else (l.take n, l.drop n, 0)
def stN (l : List UInt8) (er : Int) (size : Int) : Nat × List UInt8 × Int :=
  if er ≠ 0 then (0, l, er) else if size < 1 ∨ 8 < size then (0, l, 1) else if (l.length : Int) < size then (0, l, 10) else (numOf (l.take size.toNat), l.drop size.toNat, 0)
def stT (l : List UInt8) (er : Int) : List UInt8 × List UInt8 × Int := stS (stN l er 1).2.1 (stN l er 1).2.2 (stN l er 1).1

def NumEnd (base P : Nat) (w : World) (x : Nat) (l : List UInt8) (er : Int) (e : Ending) (w' : World) : Prop := e = .returned (.int .u64 (x : Int)) ∧ Tk w' base P l er ∧ w.grownBy w' (some P)
def StrEnd (base P : Nat) (w : World) (s : List UInt8) (l : List UInt8) (er : Int) (e : Ending) (w' : World) : Prop := e = .returned (.string ⟨s.toArray⟩) ∧ Tk w' base P l er ∧ w.grownBy w' (some P)
def BytEnd (base P : Nat) (w : World) (s : List UInt8) (l : List UInt8) (er : Int) (e : Ending) (w' : World) : Prop :=
  (∃ A c, e = .returned (.slice A s.length c) ∧ s.length ≤ c ∧ c ≤ maxLen ∧ Row w' 5 w.heap.size A (s.map byteV)) ∧ Tk w' base P l er ∧ w.grownBy w' (some P)

theorem Tk.failed {w : World} {base P : Nat} {l : List UInt8} {er : Int} (h : Tk w base P l er) (er' : Int) : Tk (w.setCell ⟨P, 1, none⟩ (.int .i64 er')) base P l er' := by
  obtain ⟨A, c, hP, hb, hR, h1, h2⟩ := h
  exact ⟨A, c, by have := hP.store 1 (.int .i64 er'); simpa using this, hb, hR.store hP (by decide) 1 _, h1, h2⟩
theorem Tk.cut {w : World} {base P c k : Nat} {A : Option Addr} {l : List UInt8} (hP : Has w P 126 #[.slice A l.length c, .int .i64 0]) (hb : base ≤ P) (hR : Row w 5 base A (l.map byteV)) (h1 : l.length ≤ c) (h2 : c ≤ maxLen) (hk : k ≤ l.length) :
    Tk (w.setCell ⟨P, 0, none⟩ (.slice (if c = k then A else A.map (·.add k)) (l.length - k) (c - k))) base P (l.drop k) 0 := by
  refine ⟨if c = k then A else A.map (·.add k), c - k, ?_, hb, ?_, by simp; omega, by omega⟩
  · have := hP.store 0 (.slice (if c = k then A else A.map (·.add k)) (l.length - k) (c - k))
    simpa using this
  · have := (hR.drop (k := k) (cap := c) (by simpa using h1)).store hP (by decide) 0 (.slice (if c = k then A else A.map (·.add k)) (l.length - k) (c - k))
    rw [List.map_drop]
    exact this

theorem takenN_any (base P : Nat) (l : List UInt8) (er size : Int) (w : World) (h : Tk w base P l er) (hs1 : 1 ≤ size) (hs8 : size ≤ 8) :
    Calls Tryd.prog 69 #[.pointer (some ⟨P, 0, none⟩), .int .i64 size, .func (.func 70) #[] #[]] w (NumEnd base P w (stN l er size).1 (stN l er size).2.1 (stN l er size).2.2) := by
  have h' := h
  obtain ⟨A, c, hP, hb, hR, h1, h2⟩ := h
  have hr : ¬ (size < 1 ∨ 8 < size) := by omega
  obtain ⟨n, rfl⟩ : ∃ n : Nat, size = (n : Int) := ⟨size.toNat, by omega⟩
  by_cases h0 : er = 0
  · subst h0
    by_cases hn : (l.length : Int) < (n : Int)
    · simp only [stN, ne_eq, not_true, if_false, if_pos hn, if_neg hr]
      exact (takenN_short P A _ c n w hP (by omega)).mono fun e w' ⟨he, hw⟩ => ⟨he, hw ▸ h'.failed 10, hw ▸ only_store (only_refl w P) 1 _⟩
    · simp only [stN, ne_eq, not_true, if_false, if_neg hn, if_neg hr, Int.toNat_natCast]
      exact (takenN_some P A c n base l w hP hR (by omega) (by omega) h1 h2).mono fun e w' ⟨he, hw⟩ => ⟨he, hw ▸ Tk.cut hP hb hR h1 h2 (by omega), hw ▸ only_store (only_refl w P) 0 _⟩
  · simp only [stN, ne_eq, h0, not_false_eq_true, if_true]
    exact (takenN_bad P _ er n w hP (by simpa using h0)).mono fun e w' ⟨he, hw⟩ => ⟨he, hw ▸ h', hw ▸ only_refl w P⟩
theorem takenB_any (base P : Nat) (l : List UInt8) (er : Int) (w : World) (h : Tk w base P l er) (hl : l.length ≤ 1000000) :
    Calls Tryd.prog 76 #[.pointer (some ⟨P, 0, none⟩), .int .i64 l.length, .func (.func 77) #[] #[]] w (BytEnd base P w (stS l er l.length).1 (stS l er l.length).2.1 (stS l er l.length).2.2) := by
  have h' := h
  obtain ⟨A, c, hP, hb, hR, h1, h2⟩ := h
  by_cases h0 : er = 0
  · subst h0
    simp only [stS, ne_eq, not_true, if_false, Nat.lt_irrefl, List.take_length, List.drop_length]
    refine (takenB_some P A c base l w hP hR hl h1 h2).mono fun e w' ⟨A', c', he, ha, hb', hc', hd⟩ => ?_
    have hk := Tk.cut hP hb hR h1 h2 (Nat.le_refl l.length)
    rw [Nat.sub_self, List.drop_length] at hk
    have ho := only_store (only_refl w P) 0 (.slice (if c = l.length then A else A.map (·.add l.length)) 0 (c - l.length))
    refine ⟨⟨A', c', he, ha, hb', hc'⟩, ?_, only_below ho (hd.mono (by simp [World.setCell]))⟩
    obtain ⟨A2, c2, hP2, hb2, hR2, h12, h22⟩ := hk
    have hlt := hP2.lt
    exact ⟨A2, c2, hP2.below hd (by simpa [World.setCell] using hP.lt), hb2, hR2.below (hd.mono (by simp [World.setCell])), h12, h22⟩
  · simp only [stS, ne_eq, h0, not_false_eq_true, if_true]
    exact (takenB_bad P _ er l.length w hP (by simpa using h0)).mono fun e w' ⟨he, hw⟩ => ⟨⟨none, 0, he, Nat.le_refl _, Nat.zero_le _, Row.empty⟩, hw ▸ h', hw ▸ only_refl w P⟩

end Go.Proofs.YthcjledpjlpfaaaDoor
end

section
namespace Go.Proofs.YthcjledpjlpfaaaDoor
open Go.RowKit
set_option linter.unusedVariables false

theorem tNum_any (base P : Nat) (l : List UInt8) (er size : Int) (w : World) (h : Tk w base P l er) :
    Calls Tryd.prog 56 #[.pointer (some ⟨P, 0, none⟩), .int .i64 size] w (NumEnd base P w (stN l er size).1 (stN l er size).2.1 (stN l er size).2.2) := by
  by_cases hs : size < 1 ∨ 8 < size
  · have h' := h
    obtain ⟨A, c, hP, hb, hR, h1, h2⟩ := h
    by_cases h0 : er = 0
    · subst h0
      simp only [stN, ne_eq, not_true, if_false, if_pos hs]
      have HS := Lib.hid hs
      have HT := Lib.hid h'
      clear h' hs hR h1 h2
      go_enter Tryd.func56, Tryd.ntmps56
      go_wp2_with (first | (go_at_call 58; refine (isSize_no _ _ HS.out).mono ?_; rintro e w' ⟨rfl, rfl⟩) | (go_at_call 68; refine (fail_first P _ 1 _ hP).mono ?_; rintro e w' ⟨rfl, rfl⟩))
      go_ret
      exact ⟨rfl, HT.out.failed 1, only_store (only_refl w P) 1 _⟩
    · simp only [stN, ne_eq, h0, not_false_eq_true, if_true]
      have hq : (er == 0) = false := by simpa using h0
      have HS := Lib.hid hs
      have HT := Lib.hid h'
      clear h' hs hR h1 h2 h0
      go_enter Tryd.func56, Tryd.ntmps56
      go_wp2_with (first | (go_at_call 58; refine (isSize_no _ _ HS.out).mono ?_; rintro e w' ⟨rfl, rfl⟩) | (go_at_call 68; refine (fail_again P _ er 1 _ hP hq).mono ?_; rintro e w' ⟨rfl, rfl⟩))
      go_ret
      exact ⟨rfl, HT.out, only_refl w P⟩
  · have h1 : 1 ≤ size := by omega
    have h8 : size ≤ 8 := by omega
    clear hs
    have HT := Lib.hid h
    clear h
    go_enter Tryd.func56, Tryd.ntmps56
    go_wp2_with (first | (go_at_call 58; refine (isSize_yes _ _ h1 h8).mono ?_; rintro e w' ⟨rfl, rfl⟩) | (go_at_call 69; refine (takenN_any base P l er size _ HT.out h1 h8).mono ?_; rintro e w' ⟨rfl, h3, h4⟩; have H3 := Lib.hid h3; have H4 := Lib.hid h4; clear h3 h4))
    go_ret
    exact ⟨rfl, H3.out, H4.out⟩

theorem tRest_any (base P : Nat) (l : List UInt8) (er : Int) (w : World) (h : Tk w base P l er) (hl : l.length ≤ 1000000) :
    Calls Tryd.prog 72 #[.pointer (some ⟨P, 0, none⟩)] w (BytEnd base P w (stS l er l.length).1 (stS l er l.length).2.1 (stS l er l.length).2.2) := by
  obtain ⟨A, c, hP, _⟩ := id h
  have hc := hP.cell0
  have HT := Lib.hid (takenB_any base P l er w h hl)
  clear h hP
  go_enter Tryd.func72, Tryd.ntmps72
  go_wp2_with (first | (go_at_call 76; refine HT.out.mono ?_; rintro e w1 ⟨⟨A', c', rfl, h1, h2, h3⟩, h4, h5⟩; have H3 := Lib.hid h3; have H4 := Lib.hid h4; have H5 := Lib.hid h5; clear h3 h4 h5))
  go_ret
  exact ⟨⟨A', c', rfl, h1, h2, H3.out⟩, H4.out, H5.out⟩

/-! Err, Done over Tk -/
def dn (l : List UInt8) (er : Int) : Int := if er ≠ 0 then er else if 0 < l.length then 11 else 0
theorem tDone_any {base P : Nat} {l : List UInt8} {er : Int} {w : World} (h : Tk w base P l er) : Calls Tryd.prog 73 #[.pointer (some ⟨P, 0, none⟩)] w fun e w' => e = .returned (.int .i64 (dn l er)) ∧ w = w' := by
  obtain ⟨A, c, hP, _⟩ := h
  unfold dn
  by_cases h0 : er = 0
  · subst h0
    by_cases hl : 0 < l.length
    · simp only [ne_eq, not_true, if_false, if_pos hl]
      exact done_left P A _ c w hP hl
    · have : l.length = 0 := by omega
      rw [this] at hP
      simp only [ne_eq, not_true, if_false, if_neg hl]
      exact done_ok P A c w hP
  · simp only [ne_eq, h0, not_false_eq_true, if_true]
    exact done_bad P _ er w hP (by simpa using h0)
theorem Tk.below {w w' : World} {base P : Nat} {l : List UInt8} {er : Int} (h : Tk w base P l er) (hb : Below w.heap.size w w') : Tk w' base P l er := by
  obtain ⟨A, c, hP, h0, hR, h1, h2⟩ := h
  exact ⟨A, c, hP.below hb hP.lt, h0, hR.below hb, h1, h2⟩
theorem Tk.away {w w' : World} {base P g : Nat} {l : List UInt8} {er : Int} (h : Tk w base P l er) (hg : w.grownBy w' (some g)) (hb : g < base) : Tk w' base P l er := by
  obtain ⟨A, c, hP, h0, hR, h1, h2⟩ := h
  exact ⟨A, c, hP.grown hg (by intro e; injection e with e; omega), h0, hR.away hb hg, h1, h2⟩
theorem own_num (w : World) (x n : Nat) (hn : n ≤ 8) : (w.alloc (.cells ((numB x n).map byteV).toArray 5)).ownsRow w.heap.size 5 1 (.slice (some ⟨w.heap.size, 0, none⟩) n n) n ((numB x n).map byteV) :=
  ⟨by simp [numB_len], .inr ⟨w.heap.size, n, _, rfl, Nat.le_refl _, heap_alloc_new w _, Nat.le_refl _, by unfold maxLen; omega, by simp [numB_len], by rw [List.toList_toArray]; exact List.take_of_length_le (by simp [numB_len])⟩⟩
theorem own_low {w : World} {b b' : Nat} {e : TypeId} {s n : Nat} {v : Value} {xs : List Value} (h : w.ownsRow b e s v n xs) (hb : b' ≤ b) : w.ownsRow b' e s v n xs :=
  ⟨h.1, h.2.imp id (fun ⟨g, cap, cur, h1, h2, h3⟩ => ⟨g, cap, cur, h1, Nat.le_trans hb h2, h3⟩)⟩
theorem tk_base {w : World} {base P : Nat} {l : List UInt8} {er : Int} (h : Tk w base P l er) : base ≤ P := by
  obtain ⟨_, _, _, hb, _⟩ := h
  exact hb
end Go.Proofs.YthcjledpjlpfaaaDoor
end

section
namespace Go.Proofs.YthcjledpjlpfaaaDoor
open Go.RowKit
set_option linter.unusedVariables false

/-! Half a byte's effect. -/
def half (i : Nat) : Nat := sts 4 i
theorem st4 (x : Nat) : sts 4 x = x / 16 ^^^ half (x % 16) := by
  have e : x = (x % 16) ^^^ (16 * (x / 16)) := by
    have h := xor_low (x % 16) (x / 16) (Nat.mod_lt _ (by omega))
    omega
  have h2 : sts 4 x = sts 4 ((x % 16) ^^^ (16 * (x / 16))) := by rw [← e]
  rw [h2, sts_xor, show 16 * (x / 16) = 2 ^ 4 * (x / 16) by omega, sts_shift, Nat.xor_comm]
  rfl
theorem half_lt (i : Nat) (h : i < 16) : half i < 4294967296 := sts_lt 4 i (by omega)
theorem and15 (x : Nat) (h : x < 4294967296) : bits .and .u32 (x : Int) 15 = ((x % 16 : Nat) : Int) := by
  have h1 := u32_and_nat x 15 h (by omega)
  have h2 : x &&& 15 = x % 16 := Nat.and_two_pow_sub_one_eq_mod x 4
  rw [h2] at h1
  exact h1

def Tab (w : World) : Prop := ∀ i, i < 16 → w.cell? ⟨0, i, none⟩ = some (.int .u32 (half i : Int))
theorem Tab.below {w w' : World} (h : Tab w) (hb : Below w.heap.size w w') : Tab w' := fun i hi =>
  (hb.cell (p := ⟨0, i, none⟩) (World.block_lt_of_cell? w _ (h i hi))).trans (h i hi)
theorem Tab.keep {W w : World} (h : Tab W) (hb : Below W.heap.size W w) : Tab w := h.below hb
theorem Tab.alloc {w : World} (h : Tab w) (o : Obj) : Tab (w.alloc o) := h.below ((Below.refl _ w).alloc (Nat.le_refl _) o)
theorem Tab.drew {w : World} (h : Tab w) : Tab w.drew := h

def SumEnd (w : World) (x : Nat) (e : Ending) (w' : World) : Prop := e = .returned (.int .u32 (x : Int)) ∧ Below w.heap.size w w'
def OpenEnd (w : World) (l : List UInt8) (e : Ending) (w' : World) : Prop :=
  (isTag l ∧ ∃ A c, e = .returned (.tuple #[.slice A (l.drop 4).length c, .bool true]) ∧ Row w' 5 w.heap.size A ((l.drop 4).map byteV) ∧ Below w.heap.size w w') ∨
  (¬ isTag l ∧ e = .returned (.tuple #[.slice none 0 0, .bool false]) ∧ Below w.heap.size w w')

set_option maxRecDepth 100000 in
set_option maxHeartbeats 2000000 in
theorem cOn_any (sum : Nat) (A : Option Addr) (n c : Nat) (l : List UInt8) (w : World) (ht : Tab w) (hsum : sum < 4294967296) (hn : n = l.length) (hl : l.length ≤ 1000000) (h : Reads w A (l.map byteV)) :
    Calls Tryd.prog 75 #[.int .u32 sum, .slice A n c] w (SumEnd w (onN sum l)) := by
  have HN := Lib.hid hn
  have HR := Lib.hid h
  have HC := Lib.hid ht
  have HB := Lib.hid (Below.refl w.heap.size w)
  clear hn h ht
  have hinv : bits .xor .u32 IntKind.u32.max (sum : Int) = ((4294967295 - sum : Nat) : Int) := by
    have h := xor_cast 4294967295 sum (by omega) hsum
    rw [← inv_xor sum hsum] at h
    exact h
  go_enter Tryd.func75, Tryd.ntmps75
  go_wp2
  go_loop [5, 12] (fun x i => ∃ k : Nat, k ≤ n ∧ i = .int .i64 k ∧ x = .int .u32 (fd (4294967295 - sum) (l.take k) : Int)) (fun _ i => n - (intOf i).toNat)
  case atStart => exact ⟨0, Nat.zero_le _, rfl, rfl⟩
  case round =>
    obtain ⟨k, hk, rfl, rfl⟩ := hrel
    by_cases hlt : k < n
    · have hkl : k < l.length := by have := HN.out; omega
      obtain ⟨b, off, hA, hcell⟩ := HR.out (by simp; omega)
      obtain ⟨d, hd⟩ : ∃ d, l[k]? = some d := ⟨_, List.getElem?_eq_getElem hkl⟩
      have hc := hcell k (byteV d) (by simp [hd])
      unfold byteV at hc
      have HM := Lib.hid (fd_more (4294967295 - sum) l k d hd)
      have hx := fd_lt (l.take k) (4294967295 - sum) (by omega)
      clear hcell hd
      subst hA
      generalize fd (4294967295 - sum) (l.take k) = x at hx HM
      have hdl := d.toNat_lt
      obtain ⟨x1, hx1⟩ : ∃ x1, x1 = x ^^^ d.toNat := ⟨_, rfl⟩
      have l1 : x1 < 4294967296 := by rw [hx1]; exact Nat.xor_lt_two_pow (n := 32) hx (by omega)
      have e1 : bits .xor .u32 (x : Int) (d.toNat : Int) = (x1 : Int) := by rw [xor_cast x d.toNat hx (by omega), hx1]
      obtain ⟨i1, hi1⟩ : ∃ i1, i1 = x1 % 16 := ⟨_, rfl⟩
      have li1 : i1 < 16 := by omega
      have e2 : bits .and .u32 (x1 : Int) 15 = (i1 : Int) := by rw [and15 x1 l1, hi1]
      obtain ⟨p1, hp1⟩ : ∃ p1, p1 = half i1 := ⟨_, rfl⟩
      have c1 : w.cell? ⟨0, i1, none⟩ = some (.int .u32 (p1 : Int)) := by rw [hp1]; exact HC.out i1 li1
      have lp1 : p1 < 4294967296 := by rw [hp1]; exact half_lt i1 li1
      obtain ⟨x2, hx2⟩ : ∃ x2, x2 = x1 / 16 ^^^ p1 := ⟨_, rfl⟩
      have l2 : x2 < 4294967296 := by rw [hx2]; exact Nat.xor_lt_two_pow (n := 32) (by omega) lp1
      have e3 : bits .xor .u32 ((x1 : Int) / 16) (p1 : Int) = (x2 : Int) := by
        have h := xor_cast (x1 / 16) p1 (by omega) lp1
        rw [hx2, ← h]
        rfl
      obtain ⟨i2, hi2⟩ : ∃ i2, i2 = x2 % 16 := ⟨_, rfl⟩
      have li2 : i2 < 16 := by omega
      have e4 : bits .and .u32 (x2 : Int) 15 = (i2 : Int) := by rw [and15 x2 l2, hi2]
      obtain ⟨p2, hp2⟩ : ∃ p2, p2 = half i2 := ⟨_, rfl⟩
      have c2 : w.cell? ⟨0, i2, none⟩ = some (.int .u32 (p2 : Int)) := by rw [hp2]; exact HC.out i2 li2
      have lp2 : p2 < 4294967296 := by rw [hp2]; exact half_lt i2 li2
      obtain ⟨x3, hx3⟩ : ∃ x3, x3 = x2 / 16 ^^^ p2 := ⟨_, rfl⟩
      have e5 : bits .xor .u32 ((x2 : Int) / 16) (p2 : Int) = (x3 : Int) := by
        have h := xor_cast (x2 / 16) p2 (by omega) lp2
        rw [hx3, ← h]
        rfl
      have HF : Hid (bt x d = x3) := Lib.hid (by
        unfold bt
        rw [← hx1, show (8 : Nat) = 4 + 4 from rfl, sts_add, st4 x1, ← hi1, ← hp1, ← hx2, st4 x2, ← hi2, ← hp2, ← hx3])
      clear hx1 hi1 hp1 hx2 hi2 hp2 hx3
      go_wp2
      go_round
      case rel => exact ⟨k + 1, by omega, by go_num, u32_eq (by rw [HM.out, HF.out])⟩
      case measure => simp [intOf]; omega
    · have e : l.take k = l := List.take_of_length_le (by have := HN.out; omega)
      rw [e]
      have hy := fd_lt l (4294967295 - sum) (by omega)
      have hi2 : bits .xor .u32 IntKind.u32.max (fd (4294967295 - sum) l : Int) = (onN sum l : Int) := by
        have h := xor_cast 4294967295 (fd (4294967295 - sum) l) (by omega) hy
        rw [← inv_xor _ hy] at h
        exact h
      clear e hy
      go_wp2
      go_ret
      exact ⟨rfl, HB.out⟩

theorem own_four (w : World) (m : Nat) : (w.alloc (.cells ((numB m 4).map byteV).toArray 5)).ownsRow w.heap.size 5 1 (.slice (some ⟨w.heap.size, 0, none⟩) 4 4) 4 ((numB m 4).map byteV) :=
  ⟨by simp [numB_len], .inr ⟨w.heap.size, 4, _, rfl, Nat.le_refl _, heap_alloc_new w _, Nat.le_refl _, by unfold maxLen; omega, by simp [numB_len], by rw [List.toList_toArray]; exact List.take_of_length_le (by simp [numB_len])⟩⟩
theorem cOf_any (A : Option Addr) (n c : Nat) (l : List UInt8) (w : World) (ht : Tab w) (hn : n = l.length) (hl : l.length ≤ 1000000) (h : Reads w A (l.map byteV)) :
    Calls Tryd.prog 71 #[.slice A n c] w (SumEnd w (ofN l)) := by
  have HK := Lib.hid (cOn_any 0 A n c l w ht (by decide) hn hl h)
  clear hn h ht
  go_enter Tryd.func71, Tryd.ntmps71
  go_wp2_with (go_at_call 75; refine HK.out.mono ?_; rintro e w1 ⟨rfl, h1⟩; have B1 := Lib.hid h1; clear h1)
  go_ret
  exact ⟨rfl, B1.out⟩

set_option maxHeartbeats 400000 in
theorem cTag_any (A : Option Addr) (n c : Nat) (l : List UInt8) (w : World) (ht : Tab w) (hn : n = l.length) (hl : l.length ≤ 900000) (h : Reads w A (l.map byteV)) (hA : A = none → c = 0) :
    Calls Tryd.prog 60 #[.slice A n c] w (Fresh w.heap.size (tagB l) w) := by
  have HK := Lib.hid (cOf_any A n c l w ht hn (by omega) h)
  have HA := Lib.hid h
  have HZ := Lib.hid hA
  have hx := ofN_lt l
  have hn2 : n ≤ 900000 := by omega
  have HN := Lib.hid hn
  clear h hn hA ht
  obtain ⟨i0, hi, hz0, hz1, hz2⟩ := info_parts u8info
  go_enter Tryd.func60, Tryd.ntmps60
  go_wp2_with (first
    | (go_at_call 71; refine HK.out.mono ?_; rintro e w1 ⟨rfl, h1⟩; have B1 := Lib.hid h1; clear h1)
    | (go_at_call 46; refine (Num_yes (ofN l) 4 w1 (by omega) (by omega) (by omega)).mono ?_; rintro e w2 ⟨rfl, rfl⟩)
    | (at_builtin; refine wpList_append_bytes rfl _ _ 32 rfl w1.heap.size 5 i0 Tryd.underlying32 hi hz0 hz1 hz2 _ 4 _ rfl (own_four w1 (ofN l)) A n c l rfl HN.out HZ.out (HA.out.keep_ (below_step B1.out ((Below.refl _ w1).alloc (Nat.le_refl _) _))) (by omega) (by simp) ?_; intro v3 w3 h3 h4; have O3 := Lib.hid h3; have G3 := Lib.hid h4; clear h3 h4))
  go_ret
  have ho := O3.out
  rw [← List.map_append, HN.out, Nat.add_comm] at ho
  have e : l.length + 4 = (tagB l).length := (tagB_len l).symm
  rw [e] at ho
  obtain ⟨A3, c3, rfl, k1, k2⟩ := own_slice ho
  exact ⟨A3, c3, rfl, k1, k2, (Row.of_own ho).low B1.out.size, below_step B1.out (((Below.refl _ w1).alloc (Nat.le_refl _) _).trans (below_only G3.out (Nat.le_refl _) (by simp)))⟩

/-! Open. -/
theorem numB_four (m : List UInt8) (h : m.length = 4) : numB (numOf m) 4 = m := by
  rcases m with _ | ⟨a, _ | ⟨b, _ | ⟨c, _ | ⟨d, _ | ⟨e, m⟩⟩⟩⟩⟩ <;> simp at h
  have ha := a.toNat_lt
  have hb := b.toNat_lt
  have hc := c.toNat_lt
  have hd := d.toNat_lt
  apply List.ext_getElem?
  intro j
  by_cases hj : j < 4
  · rw [numB_at _ _ _ hj]
    have e : numOf [a, b, c, d] = ((a.toNat * 256 + b.toNat) * 256 + c.toNat) * 256 + d.toNat := by simp [numOf]
    rw [e]
    have hu : ∀ (n : Nat) (u : UInt8), n % 256 = u.toNat → UInt8.ofNat n = u := fun n u h => UInt8.toNat_inj.1 (by simpa using h)
    rcases j with _ | _ | _ | _ | j
    · exact congrArg some (hu _ _ (by simp; omega))
    · exact congrArg some (hu _ _ (by simp; omega))
    · exact congrArg some (hu _ _ (by simp; omega))
    · exact congrArg some (hu _ _ (by simp))
    · omega
  · rw [List.getElem?_eq_none (by rw [numB_len]; omega), List.getElem?_eq_none (by simp; omega)]
theorem numOf_four (x : Nat) (h : x < 4294967296) : numOf (numB x 4) = x := by
  have e : numB x 4 = [UInt8.ofNat (x / 256 ^ 3), UInt8.ofNat (x / 256 ^ 2), UInt8.ofNat (x / 256 ^ 1), UInt8.ofNat (x / 256 ^ 0)] := rfl
  rw [e]
  simp [numOf]
  omega
theorem isTag_sum (l : List UInt8) (h : 4 ≤ l.length) : isTag l ↔ numOf (l.take 4) = ofN (l.drop 4) := by
  have ht : (l.take 4).length = 4 := by simp; omega
  constructor
  · rintro ⟨_, he⟩
    have h2 : (tagB (l.drop 4)).take 4 = numB (ofN (l.drop 4)) 4 := by
      unfold tagB
      have := List.take_left (l₁ := numB (ofN (l.drop 4)) 4) (l₂ := l.drop 4)
      rwa [numB_len] at this
    rw [he] at h2
    rw [h2, numOf_four _ (ofN_lt _)]
  · intro he
    refine ⟨h, ?_⟩
    unfold tagB
    rw [← he, numB_four _ ht, List.take_append_drop]
set_option maxHeartbeats 1000000 in
theorem cOpen_any (A : Option Addr) (n c : Nat) (l : List UInt8) (w : World) (ht : Tab w) (hn : n = l.length) (hc : n ≤ c) (hl : l.length ≤ 1000000) (h : Reads w A (l.map byteV)) :
    Calls Tryd.prog 64 #[.slice A n c] w (OpenEnd w l) := by
  subst hn
  have HK := Lib.hid (Take_any A c l w hl h)
  have HT := Lib.hid ht
  clear h ht
  by_cases h4 : l.length < 4
  · have HN := Lib.hid (fun P w1 (h : Tk w1 w.heap.size P l 0) => tNum_any w.heap.size P l 0 4 w1 h)
    rw [show stN l 0 4 = (0, l, 10) by simp [stN]; omega] at HN
    have HR := Lib.hid (fun P w1 (h : Tk w1 w.heap.size P l 10) => tRest_any w.heap.size P l 10 w1 h hl)
    rw [show stS l 10 l.length = ([], l, 10) by simp [stS]] at HR
    have HD := Lib.hid (fun P w1 (h : Tk w1 w.heap.size P l 10) => tDone_any h)
    rw [show dn l 10 = 10 by simp [dn]] at HD
    have hno : Hid (¬ isTag l) := Lib.hid (fun h => by have := h.1; omega)
    go_enter Tryd.func64, Tryd.ntmps64
    go_wp2_with (first
      | (go_at_call 55; refine HK.out.mono ?_; rintro e w1 ⟨P, rfl, k1, k2⟩; have T1 := Lib.hid k1; have B1 := Lib.hid k2; have LP : Hid (w.heap.size ≤ P) := Lib.hid (by obtain ⟨_, _, _, h, _⟩ := k1; exact h); clear k1 k2)
      | (go_at_call 56; refine (HN.out P w1 T1.out).mono ?_; rintro e w2 ⟨rfl, k1, k2⟩; have T2 := Lib.hid k1; have B2 := Lib.hid (B1.out.trans (below_only k2 LP.out B1.out.size)); clear k1 k2)
      | (go_at_call 72; refine (HR.out P w2 T2.out).mono ?_; rintro e w3 ⟨⟨A3, c3, rfl, _, _, k0⟩, k1, k2⟩; have T3 := Lib.hid k1; have B3 := Lib.hid (B2.out.trans (below_only k2 LP.out B2.out.size)); clear k0 k1 k2)
      | (go_at_call 73; refine (HD.out P w3 T3.out).mono ?_; rintro e w4 ⟨rfl, rfl⟩))
    go_ret2
    exact .inr ⟨hno.out, rfl, B3.out⟩
  · have hd : (l.drop 4).length ≤ 1000000 := by simp; omega
    have HI := Lib.hid (isTag_sum l (by omega))
    have HN := Lib.hid (fun P w1 (h : Tk w1 w.heap.size P l 0) => tNum_any w.heap.size P l 0 4 w1 h)
    rw [show stN l 0 4 = (numOf (l.take 4), l.drop 4, 0) by simp [stN]; omega] at HN
    have HR := Lib.hid (fun P w1 (h : Tk w1 w.heap.size P (l.drop 4) 0) => tRest_any w.heap.size P (l.drop 4) 0 w1 h hd)
    rw [show stS (l.drop 4) 0 (l.drop 4).length = (l.drop 4, [], 0) by simp only [stS, ne_eq, not_true, if_false, Nat.lt_irrefl, List.take_length, List.drop_length]] at HR
    have HD := Lib.hid (fun P w1 (h : Tk w1 w.heap.size P [] 0) => tDone_any h)
    rw [show dn [] 0 = 0 by simp [dn]] at HD
    have HO := Lib.hid (fun A' c' w1 (h1 : Tab w1) (h2 : Reads w1 A' ((l.drop 4).map byteV)) => cOf_any A' _ c' (l.drop 4) w1 h1 rfl hd h2)
    have hlx := ofN_lt (l.drop 4)
    have hly : numOf (l.take 4) < 4294967296 := by have := numOf_take_lt l 4 4 (Nat.le_refl _); omega
    unfold OpenEnd
    generalize l.drop 4 = r at *
    generalize numOf (l.take 4) = y at *
    generalize ofN r = x at *
    by_cases hy : y = x
    · have hxy : ((y : Int) != (x : Int)) = false := by simp [hy]
      have hyes : Hid (isTag l) := Lib.hid (HI.out.2 hy)
      clear hy
      go_enter Tryd.func64, Tryd.ntmps64
      go_wp2_with (first
        | (go_at_call 55; refine HK.out.mono ?_; rintro e w1 ⟨P, rfl, k1, k2⟩; have T1 := Lib.hid k1; have B1 := Lib.hid k2; have LP : Hid (w.heap.size ≤ P) := Lib.hid (by obtain ⟨_, _, _, h, _⟩ := k1; exact h); clear k1 k2)
        | (go_at_call 56; refine (HN.out P w1 T1.out).mono ?_; rintro e w2 ⟨rfl, k1, k2⟩; have T2 := Lib.hid k1; have B2 := Lib.hid (B1.out.trans (below_only k2 LP.out B1.out.size)); clear k1 k2)
        | (go_at_call 72; refine (HR.out P w2 T2.out).mono ?_; rintro e w3 ⟨⟨A3, c3, rfl, _, _, k0⟩, k1, k2⟩; have R3 := Lib.hid (Row.low k0 B2.out.size); have T3 := Lib.hid k1; have B3 := Lib.hid (B2.out.trans (below_only k2 LP.out B2.out.size)); clear k0 k1 k2)
        | (go_at_call 73; refine (HD.out P w3 T3.out).mono ?_; rintro e w4 ⟨rfl, rfl⟩)
        | (go_at_call 71; refine (HO.out A3 c3 w3 (HT.out.below B3.out) R3.out.reads).mono ?_; rintro e w5 ⟨rfl, k1⟩; have R5 := Lib.hid (R3.out.below k1); have B5 := Lib.hid (below_step B3.out k1); clear k1))
      go_ret2
      exact .inl ⟨hyes.out, A3, c3, rfl, R5.out, B5.out⟩
    · have hxy : ((y : Int) != (x : Int)) = true := by simp; omega
      have hno : Hid (¬ isTag l) := Lib.hid (fun h => hy (HI.out.1 h))
      clear hy
      go_enter Tryd.func64, Tryd.ntmps64
      go_wp2_with (first
        | (go_at_call 55; refine HK.out.mono ?_; rintro e w1 ⟨P, rfl, k1, k2⟩; have T1 := Lib.hid k1; have B1 := Lib.hid k2; have LP : Hid (w.heap.size ≤ P) := Lib.hid (by obtain ⟨_, _, _, h, _⟩ := k1; exact h); clear k1 k2)
        | (go_at_call 56; refine (HN.out P w1 T1.out).mono ?_; rintro e w2 ⟨rfl, k1, k2⟩; have T2 := Lib.hid k1; have B2 := Lib.hid (B1.out.trans (below_only k2 LP.out B1.out.size)); clear k1 k2)
        | (go_at_call 72; refine (HR.out P w2 T2.out).mono ?_; rintro e w3 ⟨⟨A3, c3, rfl, _, _, k0⟩, k1, k2⟩; have R3 := Lib.hid (Row.low k0 B2.out.size); have T3 := Lib.hid k1; have B3 := Lib.hid (B2.out.trans (below_only k2 LP.out B2.out.size)); clear k0 k1 k2)
        | (go_at_call 73; refine (HD.out P w3 T3.out).mono ?_; rintro e w4 ⟨rfl, rfl⟩)
        | (go_at_call 71; refine (HO.out A3 c3 w3 (HT.out.below B3.out) R3.out.reads).mono ?_; rintro e w5 ⟨rfl, k1⟩; have R5 := Lib.hid (R3.out.below k1); have B5 := Lib.hid (below_step B3.out k1); clear k1))
      go_ret2
      exact .inr ⟨hno.out, rfl, B5.out⟩

end Go.Proofs.YthcjledpjlpfaaaDoor
end

section
namespace Go.Proofs.YthcjledpjlpfaaaDoor
open Go.ChangeShapes Go.WideShapes Go.ChangeAt Go.RowKit Go.Deep
set_option linter.unusedVariables false

theorem own : ownKnob Tryd.prog.godebug = none := by kernel_rfl
theorem laidOut : laidOutB Tryd.prog = true := by kernel_rfl

section
variable {H : Type} {enc : TypeId × Value → H} {W : World} {base : Nat}

end

end Go.Proofs.YthcjledpjlpfaaaDoor
end

section
namespace Go.Proofs.YthcjledpjlpfaaaDoor
open Go.ChangeShapes Go.WideShapes Go.ChangeAt Go.RowKit
set_option linter.unusedVariables false

def tab : List Nat := [0, 498536548, 997073096, 651767980, 1994146192, 1802195444, 1303535960, 1342533948, 3988292384, 4027552580, 3604390888, 3412177804, 2607071920, 2262029012, 2685067896, 3183342108]
theorem tab_ok : ∀ i, i < 16 → tab[i]? = some (half i) := by decide
abbrev lay : List (String × DataW Unit) := [("jalousie/crc.effect", Rows.laid_jalousie_crc_effect)]
theorem lay_tab : (Rows.laid_jalousie_crc_effect : DataW Unit) = .agg (tab.map fun x : Nat => .lit (.int .u32 (x : Int))) := rfl
theorem gEff : Tryd.prog.globalNamed "jalousie/crc.effect" = some 0 := by kernel_rfl
theorem tEff : (Tryd.prog.globals[0]?).map (·.type) = some 137 := by kernel_rfl
theorem tab_of_laid {W : World} (h : laidMetH Tryd.prog lay W) : Tab W := by
  rw [MakeChecks.laidMetH_plain _ _ _ (by kernel_rfl)] at h
  obtain ⟨ps, ⟨g0, t0, cs0, f0, p0, q0, hg0, ht0, hv0, hd0, _, _⟩, _⟩ := h
  obtain rfl := Option.some.inj (gEff.symm.trans hg0)
  obtain rfl := Option.some.inj (tEff.symm.trans ht0)
  obtain ⟨xs, m1, rfl, hx1, hlen, hn, hel⟩ := DataW.trod_array Tryd.underlying137 hd0
  have c1 : Tryd.prog.cellsOf 23 = 1 := by kernel_rfl
  have c16 : Tryd.prog.cellsOf 137 = 16 := by kernel_rfl
  rw [c16] at hlen
  simp only [Prod.mk.injEq] at hx1
  have hx := hx1.1
  rw [lay_tab] at hx
  injection hx with hx
  intro i hi
  have he := hel i hi
  rw [c1, Nat.mul_one] at he
  obtain ⟨x, hxi⟩ : ∃ x, xs[i]? = some x := ⟨_, List.getElem?_eq_getElem (by omega)⟩
  obtain ⟨c, hci⟩ : ∃ c, cs0.toList[i]? = some c := ⟨_, List.getElem?_eq_getElem (by omega)⟩
  have hcl : (cs0.toList.drop i).take 1 = [c] := by
    obtain ⟨hlt, hget⟩ := List.getElem?_eq_some_iff.1 hci
    rw [List.drop_eq_getElem_cons hlt, hget]
    rfl
  rw [hcl, hxi] at he
  obtain ⟨k, hk1, hk2, _⟩ := DataW.trod_int Tryd.underlying23 he
  have hq : (xs.map (·.1))[i]? = some x.1 := by rw [List.getElem?_map, hxi]; rfl
  rw [← hx, List.getElem?_map, tab_ok i hi, hk2] at hq
  simp only [Option.map_some, Option.some.injEq, DataW.lit.injEq, Lit.int.injEq, true_and] at hq
  have hv := World.var?_cell hg0 hv0 i
  rw [hv, ← Array.getElem?_toList, hci]
  rw [(List.cons.inj hk1).1, hq]

theorem door_met (os : Os) (args : Array Value) : laidMetH Tryd.prog lay ((World.doorLaid Tryd.prog 14 os).forCall (fun _ _ => 0) ⟨#[], args, []⟩).memory :=
  laidMetH_of_parts3 (fuel := 8) (laidMet_of_run' 8 (by kernel_rfl) (by kernel_rfl)) (by kernel_rfl) (by kernel_rfl)

end Go.Proofs.YthcjledpjlpfaaaDoor
end

section
namespace Go.Proofs.YthcjledpjlpfaaaDoor
open Go.ChangeShapes Go.WideShapes Go.ChangeAt Go.RowKit
set_option linter.unusedVariables false

abbrev layN : Nat := 14
abbrev layKinds : List LaidKind := [.data]
theorem base_of_laid {W : World} (h : laidMetH Tryd.prog lay W) : Tab W := tab_of_laid h

end Go.Proofs.YthcjledpjlpfaaaDoor
end
