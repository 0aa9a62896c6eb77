import Derived.Test.YtnponjdnjkegmaaDoorJ00
import Derived.Deep.DeepFit
/- Of a claim's texts, joined: Oct Ocu Ocm. No statement but in the last. -/
section
namespace Go.Proofs.YtnponjdnjkegmaaDoor
open Go.RowKit

/-! the Taker's errors -/
theorem err_some (P : Nat) (v : Value) (er : Int) (w : World) (h : Has w P 112 #[v, .int .i64 er]) : Calls Tryd.prog 66 #[.pointer (some ⟨P, 0, none⟩)] w fun e w' => e = .returned (.int .i64 er) ∧ w = w' := by
  have hc := h.cell1
  go_enter Tryd.func66, Tryd.ntmps66
  go_wp2
  go_ret
  exact ⟨rfl, rfl⟩

theorem fail_first (P : Nat) (v : Value) (er : Int) (w : World) (h : Has w P 112 #[v, .int .i64 0]) :
    Calls Tryd.prog 61 #[.pointer (some ⟨P, 0, none⟩), .int .i64 er] w fun e w' => e = .returned (.tuple #[]) ∧ w.setCell ⟨P, 1, none⟩ (.int .i64 er) = w' := by
  have hc := h.cell1
  have hf := h.free 1
  go_enter Tryd.func61, Tryd.ntmps61
  go_wp2_with (go_at_call 66; refine (err_some P v 0 _ h).mono ?_; rintro e w' ⟨rfl, rfl⟩)
  go_end0
  exact ⟨rfl, rfl⟩
theorem fail_again (P : Nat) (v : Value) (er0 er : Int) (w : World) (h : Has w P 112 #[v, .int .i64 er0]) (h0 : (er0 == 0) = false) :
    Calls Tryd.prog 61 #[.pointer (some ⟨P, 0, none⟩), .int .i64 er] w fun e w' => e = .returned (.tuple #[]) ∧ w = w' := by
  go_enter Tryd.func61, Tryd.ntmps61
  go_wp2_with (go_at_call 66; refine (err_some P v er0 _ h).mono ?_; rintro e w' ⟨rfl, rfl⟩)
  go_end0
  exact ⟨rfl, rfl⟩

theorem done_bad (P : Nat) (v : Value) (er : Int) (w : World) (h : Has w P 112 #[v, .int .i64 er]) (h0 : (er == 0) = false) :
    Calls Tryd.prog 56 #[.pointer (some ⟨P, 0, none⟩)] w fun e w' => e = .returned (.int .i64 er) ∧ w = w' := by
  have h1 : (er != 0) = true := by simp at h0 ⊢; exact h0
  go_enter Tryd.func56, Tryd.ntmps56
  go_wp2_with (go_at_call 66; refine (err_some P v er _ h).mono ?_; rintro e w' ⟨rfl, rfl⟩)
  go_ret
  exact ⟨rfl, rfl⟩
theorem done_left (P : Nat) (A : Option Addr) (n c : Nat) (w : World) (h : Has w P 112 #[.slice A n c, .int .i64 0]) (hn : 0 < n) :
    Calls Tryd.prog 56 #[.pointer (some ⟨P, 0, none⟩)] w fun e w' => e = .returned (.int .i64 11) ∧ w = w' := by
  have hc := h.cell0
  have h1 : (0 : Int) < (n : Int) := by omega
  go_enter Tryd.func56, Tryd.ntmps56
  go_wp2_with (go_at_call 66; refine (err_some P _ 0 _ h).mono ?_; rintro e w' ⟨rfl, rfl⟩)
  go_ret
  exact ⟨rfl, rfl⟩
theorem done_ok (P : Nat) (A : Option Addr) (c : Nat) (w : World) (h : Has w P 112 #[.slice A 0 c, .int .i64 0]) :
    Calls Tryd.prog 56 #[.pointer (some ⟨P, 0, none⟩)] w fun e w' => e = .returned (.int .i64 0) ∧ w = w' := by
  have hc := h.cell0
  go_enter Tryd.func56, Tryd.ntmps56
  go_wp2_with (go_at_call 66; refine (err_some P _ 0 _ h).mono ?_; rintro e w' ⟨rfl, rfl⟩)
  go_ret
  exact ⟨rfl, rfl⟩

/-! the three closures -/
theorem cloS_any (A : Option Addr) (n c : Nat) (l : List UInt8) (w : World) (hn : n = l.length) (h : Reads w A (l.map byteV)) :
    Calls Tryd.prog 58 #[.slice A n c] w fun e w' => e = .returned (.string ⟨l.toArray⟩) ∧ w = w' := by
  have hr := fun (c' : Nat) => run_string_of (P := Tryd.prog) w 31 9 5 Tryd.underlying31 Tryd.underlying5 Tryd.underlying9 (cap := c') hn h
  have H := Lib.hid hn
  clear hn h
  go_enter Tryd.func58, Tryd.ntmps58
  go_wp2
  go_ret
  exact ⟨rfl, rfl⟩

def numOf (l : List UInt8) : Nat := l.foldl (fun x c => x * 256 + c.toNat) 0
theorem numOf_snoc (l : List UInt8) (c : UInt8) : numOf (l ++ [c]) = numOf l * 256 + c.toNat := by simp [numOf]
theorem numOf_lt (l : List UInt8) : ∀ x m : Nat, x < 256 ^ m → l.foldl (fun x c => x * 256 + c.toNat) x < 256 ^ (m + l.length) := by
  induction l with
  | nil => intro x m h; simpa using h
  | cons c l ih =>
    intro x m h
    have hc := c.toNat_lt
    have := ih (x * 256 + c.toNat) (m + 1) (by rw [Nat.pow_succ]; omega)
    rw [List.length_cons, Nat.add_comm l.length 1, ← Nat.add_assoc]
    exact this
theorem numOf_take_lt (l : List UInt8) (k m : Nat) (hk : k ≤ m) : numOf (l.take k) < 256 ^ m := by
  have h := numOf_lt (l.take k) 0 0 (by simp)
  have h2 : 256 ^ (0 + (l.take k).length) ≤ 256 ^ m := Nat.pow_le_pow_right (by omega) (by simp; omega)
  exact Nat.lt_of_lt_of_le h h2
theorem or_join (x : Nat) (d : UInt8) (hx : x < 256 ^ 7) : bits .or .u64 ((x : Int) * 256) (d.toNat : Int) = ((x * 256 + d.toNat : Nat) : Int) := by
  have hd := d.toNat_lt
  have h : ((x : Int) * 256) = ((x * 256 : Nat) : Int) := by omega
  rw [h, u64_or_nat _ _ (by omega) (by omega)]
  have := Nat.two_pow_add_eq_or_of_lt (b := d.toNat) (i := 8) (by omega) x
  have h2 : 2 ^ 8 * x = x * 256 := by omega
  rw [h2] at this
  rw [this]
set_option maxHeartbeats 400000 in
theorem cloN_any (A : Option Addr) (n c : Nat) (l : List UInt8) (w : World) (hn : n = l.length) (h8 : n ≤ 8) (h : Reads w A (l.map byteV)) :
    Calls Tryd.prog 63 #[.slice A n c] w fun e w' => e = .returned (.int .u64 (numOf l : Int)) ∧ w = w' := by
  have HN := Lib.hid hn
  have HR := Lib.hid h
  clear hn h
  go_enter Tryd.func63, Tryd.ntmps63
  go_wp2
  go_loop [3, 8] (fun x i => ∃ k : Nat, k ≤ n ∧ i = .int .i64 k ∧ x = .int .u64 (numOf (l.take k) : Int)) (fun _ i => n - (intOf i).toNat)
  case atStart => exact ⟨0, Nat.zero_le _, rfl, rfl⟩
  case round =>
    obtain ⟨k, hk, rfl, rfl⟩ := hrel
    by_cases hlt : k < n
    · have hkl : k < l.length := by have := HN.out; omega
      obtain ⟨b, off, hA, hcell⟩ := HR.out (by simp; omega)
      obtain ⟨d, hd⟩ : ∃ d, l[k]? = some d := ⟨_, List.getElem?_eq_getElem hkl⟩
      have hc := hcell k (byteV d) (by simp [hd])
      unfold byteV at hc
      clear hcell
      have HD := Lib.hid hd
      clear hd
      subst hA
      have hb := numOf_take_lt l k 7 (by omega)
      have hd2 := d.toNat_lt
      generalize hx : numOf (l.take k) = x at hb
      have HX := Lib.hid hx
      clear hx
      go_wp2
      go_round
      case rel => exact ⟨k + 1, by omega, by go_num, by rw [or_join x d hb, take_more HD.out, numOf_snoc, HX.out]⟩
      case measure => simp [intOf]; omega
    · go_wp2
      go_ret
      exact ⟨ret_u64 (by rw [List.take_of_length_le (by have := HN.out; omega)]), rfl⟩

theorem clone_nil (c : Nat) (w : World) : Calls Tryd.prog 45 #[.slice none 0 c] w fun e w' => e = .returned (.slice none 0 0) ∧ w = w' := by
  have hq := eq_nil_yes 0 c
  go_enter Tryd.func45, Tryd.ntmps45
  go_wp2
  go_ret
  exact ⟨rfl, rfl⟩
theorem clone_some (a : Addr) (c : Nat) (l : List UInt8) (w : World) (hl : l.length ≤ 1000000) (h : Reads w (some a) (l.map byteV)) :
    Calls Tryd.prog 45 #[.slice (some a) l.length c] w (Fresh w.heap.size l w) := by
  have hcl : ∀ j u, (l.map byteV)[j]? = some u → (w.alloc (.cells #[] 5)).cell? (a.add j) = some u := by
    intro j u hj
    obtain ⟨g, off, hA, hc⟩ := h (by
      have := (List.getElem?_eq_some_iff.1 hj).1
      omega)
    injection hA with hA
    subst hA
    rw [add_plain]
    have hc2 := hc j u hj
    exact (World.cell?_alloc_lt w _ _ (World.block_lt_of_cell? w _ hc2)).trans hc2
  have HC := Lib.hid hcl
  have HR := Lib.hid h
  clear h hcl
  obtain ⟨i0, hi, hz0, hz1, hz2⟩ := info_parts u8info
  have hq := eq_nil_no a l.length c
  go_enter Tryd.func45, Tryd.ntmps45
  go_wp2_with (at_builtin; refine wpList_append_own _ rfl _ _ 31 rfl w.heap.size 5 i0 (.int .u8 0) 1 1 Tryd.underlying31 hi hz0 hz1 hz2 rfl (by decide) _ _ _ rfl (own_new w) a l.length c (l.map byteV) rfl (by simp) HC.out (one_byteV l) (by unfold maxLen; omega) (by omega) (by simp) ?_; intro v' w1 hown hgrow hnil; have HO := Lib.hid hown; have HG := Lib.hid hgrow; clear hown hgrow hnil)
  go_ret
  have ho := HO.out
  rw [Nat.zero_add, List.nil_append] at ho
  exact fresh_of ho ((Below.refl _ w).alloc (Nat.le_refl _) _) HG.out (by simp)

theorem clone_any (A : Option Addr) (c : Nat) (l : List UInt8) (w : World) (hl : l.length ≤ 1000000) (h : Reads w A (l.map byteV)) :
    Calls Tryd.prog 45 #[.slice A l.length c] w (Fresh w.heap.size l w) := by
  rcases A with _ | a
  · have h0 : l = [] := by
      rcases l with _ | ⟨d, l⟩
      · rfl
      · obtain ⟨g, off, ha, _⟩ := h (by simp)
        cases ha
    subst h0
    exact (clone_nil c w).mono fun e w' ⟨he, hw⟩ => ⟨none, 0, by rw [he]; rfl, Nat.le_refl _, Nat.zero_le _, Row.empty, by rw [hw]; exact Below.refl _ _⟩
  · exact clone_some a c l w hl h

theorem cloB_any (A : Option Addr) (c : Nat) (l : List UInt8) (w : World) (hl : l.length ≤ 1000000) (h : Reads w A (l.map byteV)) :
    Calls Tryd.prog 65 #[.slice A l.length c] w (Fresh w.heap.size l w) := by
  have HK := Lib.hid (clone_any A c l w hl h)
  clear h
  go_enter Tryd.func65, Tryd.ntmps65
  go_wp2_with (go_at_call 45; refine HK.out.mono ?_; rintro e w' ⟨A', c', rfl, h1, h2, h3, h4⟩; have H3 := Lib.hid h3; have H4 := Lib.hid h4; clear h3 h4)
  go_ret
  exact ⟨A', c', rfl, h1, h2, H3.out, H4.out⟩

def Tk (w : World) (base P : Nat) (l : List UInt8) (er : Int) : Prop :=
  ∃ A c, Has w P 112 #[.slice A l.length c, .int .i64 er] ∧ base ≤ P ∧ Row w 5 base A (l.map byteV) ∧ l.length ≤ c ∧ c ≤ maxLen
def Made (W : Nat) (l : List UInt8) (w : World) (e : Ending) (w' : World) : Prop := ∃ P, e = .returned (.pointer (some ⟨P, 0, none⟩)) ∧ Tk w' W P l 0 ∧ Below W w w'

theorem Take_any (A : Option Addr) (c : Nat) (l : List UInt8) (w : World) (hl : l.length ≤ 1000000) (h : Reads w A (l.map byteV)) :
    Calls Tryd.prog 46 #[.slice A l.length c] w (Made w.heap.size l w) := by
  have HK := Lib.hid (clone_any A c l w hl h)
  clear h
  go_enter Tryd.func46, Tryd.ntmps46
  go_wp2_with (go_at_call 45; refine HK.out.mono ?_; rintro e w1 ⟨A', c', rfl, h1, h2, h3, h4⟩; have H3 := Lib.hid h3; have H4 := Lib.hid h4; clear h3 h4)
  go_ret
  exact ⟨_, rfl, ⟨A', c', Has.made _ _ _, H4.out.size, H3.out.alloc _, h1, h2⟩, H4.out.alloc H4.out.size _⟩

end Go.Proofs.YtnponjdnjkegmaaDoor
end

section
namespace Go.Proofs.YtnponjdnjkegmaaDoor
open Go.RowKit
set_option linter.unusedVariables false

theorem takenS_bad (P : Nat) (v : Value) (er : Int) (n : Int) (w : World) (h : Has w P 112 #[v, .int .i64 er]) (h0 : (er == 0) = false) :
    Calls Tryd.prog 57 #[.pointer (some ⟨P, 0, none⟩), .int .i64 n, .func (.func 58) #[] #[]] w fun e w' => e = .returned (.string ⟨#[]⟩) ∧ w = w' := by
  have h1 : (er != 0) = true := by simp at h0 ⊢; exact h0
  go_enter Tryd.func57, Tryd.ntmps57
  go_wp2_with (go_at_call 66; refine (err_some P v er _ h).mono ?_; rintro e w' ⟨rfl, rfl⟩)
  go_ret
  exact ⟨rfl, rfl⟩
theorem takenS_short (P : Nat) (A : Option Addr) (m c : Nat) (n : Int) (w : World) (h : Has w P 112 #[.slice A m c, .int .i64 0]) (hn : (m : Int) < n) :
    Calls Tryd.prog 57 #[.pointer (some ⟨P, 0, none⟩), .int .i64 n, .func (.func 58) #[] #[]] w fun e w' => e = .returned (.string ⟨#[]⟩) ∧ w.setCell ⟨P, 1, none⟩ (.int .i64 10) = w' := by
  have hc := h.cell0
  go_enter Tryd.func57, Tryd.ntmps57
  go_wp2_with (first | (go_at_call 66; refine (err_some P _ 0 _ h).mono ?_; rintro e w' ⟨rfl, rfl⟩) | (go_at_call 61; refine (fail_first P _ 10 _ h).mono ?_; rintro e w' ⟨rfl, rfl⟩))
  go_ret
  exact ⟨rfl, rfl⟩
set_option maxHeartbeats 400000 in
theorem takenS_some (P : Nat) (A : Option Addr) (c k base : Nat) (l : List UInt8) (w : World) (h : Has w P 112 #[.slice A l.length c, .int .i64 0]) (hR : Row w 5 base A (l.map byteV)) (hk : k ≤ l.length) (hlc : l.length ≤ c) (hcm : c ≤ maxLen) :
    Calls Tryd.prog 57 #[.pointer (some ⟨P, 0, none⟩), .int .i64 k, .func (.func 58) #[] #[]] w fun e w' => e = .returned (.string ⟨(l.take k).toArray⟩) ∧ w.setCell ⟨P, 0, none⟩ (.slice (if c = k then A else A.map (·.add k)) (l.length - k) (c - k)) = w' := by
  have hc := h.cell0
  have hf := h.free 0
  unfold maxLen at hcm
  have HR := Lib.hid hR
  have HT : Hid (∀ k : Nat, Reads (w.setCell ⟨P, 0, none⟩ (.slice (if c = k then A else A.map (·.add k)) (l.length - k) (c - k))) A ((l.take k).map byteV)) := by
    intro k
    have := (hR.store h (by decide) 0 (.slice (if c = k then A else A.map (·.add k)) (l.length - k) (c - k))).reads.take k
    rw [List.map_take]
    exact this
  clear hR
  go_enter Tryd.func57, Tryd.ntmps57
  go_wp2_with (first | (go_at_call 66; refine (err_some P _ 0 _ h).mono ?_; rintro e w' ⟨rfl, rfl⟩) | (go_at_call 58; refine (cloS_any A k _ (l.take k) _ (by simp; omega) (HT.out k)).mono ?_; rintro e w' ⟨rfl, rfl⟩))
  all_goals (go_ret; exact ⟨rfl, rfl⟩)

theorem takenN_bad (P : Nat) (v : Value) (er : Int) (n : Int) (w : World) (h : Has w P 112 #[v, .int .i64 er]) (h0 : (er == 0) = false) :
    Calls Tryd.prog 62 #[.pointer (some ⟨P, 0, none⟩), .int .i64 n, .func (.func 63) #[] #[]] w fun e w' => e = .returned (.int .u64 0) ∧ w = w' := by
  have h1 : (er != 0) = true := by simp at h0 ⊢; exact h0
  go_enter Tryd.func62, Tryd.ntmps62
  go_wp2_with (go_at_call 66; refine (err_some P v er _ h).mono ?_; rintro e w' ⟨rfl, rfl⟩)
  go_ret
  exact ⟨rfl, rfl⟩
theorem takenN_short (P : Nat) (A : Option Addr) (m c : Nat) (n : Int) (w : World) (h : Has w P 112 #[.slice A m c, .int .i64 0]) (hn : (m : Int) < n) :
    Calls Tryd.prog 62 #[.pointer (some ⟨P, 0, none⟩), .int .i64 n, .func (.func 63) #[] #[]] w fun e w' => e = .returned (.int .u64 0) ∧ w.setCell ⟨P, 1, none⟩ (.int .i64 10) = w' := by
  have hc := h.cell0
  go_enter Tryd.func62, Tryd.ntmps62
  go_wp2_with (first | (go_at_call 66; refine (err_some P _ 0 _ h).mono ?_; rintro e w' ⟨rfl, rfl⟩) | (go_at_call 61; refine (fail_first P _ 10 _ h).mono ?_; rintro e w' ⟨rfl, rfl⟩))
  go_ret
  exact ⟨rfl, rfl⟩
set_option maxHeartbeats 400000 in
theorem takenN_some (P : Nat) (A : Option Addr) (c k base : Nat) (l : List UInt8) (w : World) (h : Has w P 112 #[.slice A l.length c, .int .i64 0]) (hR : Row w 5 base A (l.map byteV)) (hk : k ≤ l.length) (h8 : k ≤ 8) (hlc : l.length ≤ c) (hcm : c ≤ maxLen) :
    Calls Tryd.prog 62 #[.pointer (some ⟨P, 0, none⟩), .int .i64 k, .func (.func 63) #[] #[]] w fun e w' => e = .returned (.int .u64 (numOf (l.take k) : Int)) ∧ w.setCell ⟨P, 0, none⟩ (.slice (if c = k then A else A.map (·.add k)) (l.length - k) (c - k)) = w' := by
  have hc := h.cell0
  have hf := h.free 0
  unfold maxLen at hcm
  have HR := Lib.hid hR
  have HT : Hid (∀ k : Nat, Reads (w.setCell ⟨P, 0, none⟩ (.slice (if c = k then A else A.map (·.add k)) (l.length - k) (c - k))) A ((l.take k).map byteV)) := by
    intro k
    have := (hR.store h (by decide) 0 (.slice (if c = k then A else A.map (·.add k)) (l.length - k) (c - k))).reads.take k
    rw [List.map_take]
    exact this
  clear hR
  go_enter Tryd.func62, Tryd.ntmps62
  go_wp2_with (first | (go_at_call 66; refine (err_some P _ 0 _ h).mono ?_; rintro e w' ⟨rfl, rfl⟩) | (go_at_call 63; refine (cloN_any A k _ (l.take k) _ (by simp; omega) (by omega) (HT.out k)).mono ?_; rintro e w' ⟨rfl, rfl⟩))
  all_goals (go_ret; exact ⟨rfl, rfl⟩)

theorem takenB_bad (P : Nat) (v : Value) (er : Int) (n : Int) (w : World) (h : Has w P 112 #[v, .int .i64 er]) (h0 : (er == 0) = false) :
    Calls Tryd.prog 64 #[.pointer (some ⟨P, 0, none⟩), .int .i64 n, .func (.func 65) #[] #[]] w fun e w' => e = .returned (.slice none 0 0) ∧ w = w' := by
  have h1 : (er != 0) = true := by simp at h0 ⊢; exact h0
  go_enter Tryd.func64, Tryd.ntmps64
  go_wp2_with (go_at_call 66; refine (err_some P v er _ h).mono ?_; rintro e w' ⟨rfl, rfl⟩)
  go_ret
  exact ⟨rfl, rfl⟩
set_option maxHeartbeats 400000 in
theorem takenB_some (P : Nat) (A : Option Addr) (c base : Nat) (l : List UInt8) (w : World) (h : Has w P 112 #[.slice A l.length c, .int .i64 0]) (hR : Row w 5 base A (l.map byteV)) (hl : l.length ≤ 1000000) (hlc : l.length ≤ c) (hcm : c ≤ maxLen) :
    Calls Tryd.prog 64 #[.pointer (some ⟨P, 0, none⟩), .int .i64 l.length, .func (.func 65) #[] #[]] w (Fresh w.heap.size l (w.setCell ⟨P, 0, none⟩ (.slice (if c = l.length then A else A.map (·.add l.length)) 0 (c - l.length)))) := by
  have hc := h.cell0
  have hf := h.free 0
  unfold maxLen at hcm
  have HT : Hid (Reads (w.setCell ⟨P, 0, none⟩ (.slice (if c = l.length then A else A.map (·.add l.length)) 0 (c - l.length))) A (l.map byteV)) := (hR.store h (by decide) 0 _).reads
  clear hR
  by_cases hcl : c = l.length
  · subst hcl
    simp only [if_pos, Nat.sub_self] at HT ⊢
    go_enter Tryd.func64, Tryd.ntmps64
    go_wp2_with (first | (go_at_call 66; refine (err_some P _ 0 _ h).mono ?_; rintro e w' ⟨rfl, rfl⟩) | (go_at_call 65; refine (cloB_any A _ l _ hl HT.out).mono ?_; rintro e w' ⟨A', c', rfl, h1, h2, h3, h4⟩; have H3 := Lib.hid h3; have H4 := Lib.hid h4; clear h3 h4))
    go_ret
    exact ⟨A', c', rfl, h1, h2, (H3.out).low (by simp), (H4.out).mono (by simp)⟩
  · simp only [if_neg hcl] at HT ⊢
    have hcl2 : ¬ (c = l.length) := hcl
    go_enter Tryd.func64, Tryd.ntmps64
    go_wp2_with (first | (go_at_call 66; refine (err_some P _ 0 _ h).mono ?_; rintro e w' ⟨rfl, rfl⟩) | (go_at_call 65; refine (cloB_any A _ l _ hl HT.out).mono ?_; rintro e w' ⟨A', c', rfl, h1, h2, h3, h4⟩; have H3 := Lib.hid h3; have H4 := Lib.hid h4; clear h3 h4))
    go_ret
    exact ⟨A', c', rfl, h1, h2, (H3.out).low (by simp), (H4.out).mono (by simp)⟩

/-! What the Taker's steps do to (what is left, the error). -/
def stS (l : List UInt8) (er : Int) (n : Nat) : List UInt8 × List UInt8 × Int := if er ≠ 0 then ([], l, er) else if l.length < n then ([], l, 10) else (l.take n, l.drop n, 0)
def stN (l : List UInt8) (er : Int) (size : Int) : Nat × List UInt8 × Int :=
  if er ≠ 0 then (0, l, er) else if size < 1 ∨ 8 < size then (0, l, 1) else if (l.length : Int) < size then (0, l, 10) else (numOf (l.take size.toNat), l.drop size.toNat, 0)
def stT (l : List UInt8) (er : Int) : List UInt8 × List UInt8 × Int := stS (stN l er 1).2.1 (stN l er 1).2.2 (stN l er 1).1

def NumEnd (base P : Nat) (w : World) (x : Nat) (l : List UInt8) (er : Int) (e : Ending) (w' : World) : Prop := e = .returned (.int .u64 (x : Int)) ∧ Tk w' base P l er ∧ w.grownBy w' (some P)
def StrEnd (base P : Nat) (w : World) (s : List UInt8) (l : List UInt8) (er : Int) (e : Ending) (w' : World) : Prop := e = .returned (.string ⟨s.toArray⟩) ∧ Tk w' base P l er ∧ w.grownBy w' (some P)
def BytEnd (base P : Nat) (w : World) (s : List UInt8) (l : List UInt8) (er : Int) (e : Ending) (w' : World) : Prop :=
  (∃ A c, e = .returned (.slice A s.length c) ∧ s.length ≤ c ∧ c ≤ maxLen ∧ Row w' 5 w.heap.size A (s.map byteV)) ∧ Tk w' base P l er ∧ w.grownBy w' (some P)

theorem Tk.failed {w : World} {base P : Nat} {l : List UInt8} {er : Int} (h : Tk w base P l er) (er' : Int) : Tk (w.setCell ⟨P, 1, none⟩ (.int .i64 er')) base P l er' := by
  obtain ⟨A, c, hP, hb, hR, h1, h2⟩ := h
  exact ⟨A, c, by have := hP.store 1 (.int .i64 er'); simpa using this, hb, hR.store hP (by decide) 1 _, h1, h2⟩
theorem Tk.cut {w : World} {base P c k : Nat} {A : Option Addr} {l : List UInt8} (hP : Has w P 112 #[.slice A l.length c, .int .i64 0]) (hb : base ≤ P) (hR : Row w 5 base A (l.map byteV)) (h1 : l.length ≤ c) (h2 : c ≤ maxLen) (hk : k ≤ l.length) :
    Tk (w.setCell ⟨P, 0, none⟩ (.slice (if c = k then A else A.map (·.add k)) (l.length - k) (c - k))) base P (l.drop k) 0 := by
  refine ⟨if c = k then A else A.map (·.add k), c - k, ?_, hb, ?_, by simp; omega, by omega⟩
  · have := hP.store 0 (.slice (if c = k then A else A.map (·.add k)) (l.length - k) (c - k))
    simpa using this
  · have := (hR.drop (k := k) (cap := c) (by simpa using h1)).store hP (by decide) 0 (.slice (if c = k then A else A.map (·.add k)) (l.length - k) (c - k))
    rw [List.map_drop]
    exact this

theorem takenS_any (base P : Nat) (l : List UInt8) (er : Int) (n : Nat) (w : World) (h : Tk w base P l er) :
    Calls Tryd.prog 57 #[.pointer (some ⟨P, 0, none⟩), .int .i64 n, .func (.func 58) #[] #[]] w (StrEnd base P w (stS l er n).1 (stS l er n).2.1 (stS l er n).2.2) := by
  have h' := h
  obtain ⟨A, c, hP, hb, hR, h1, h2⟩ := h
  by_cases h0 : er = 0
  · subst h0
    by_cases hn : l.length < n
    · simp only [stS, ne_eq, not_true, if_false, if_pos hn]
      exact (takenS_short P A _ c n w hP (by omega)).mono fun e w' ⟨he, hw⟩ => ⟨he, hw ▸ h'.failed 10, hw ▸ only_store (only_refl w P) 1 _⟩
    · simp only [stS, ne_eq, not_true, if_false, if_neg hn]
      exact (takenS_some P A c n base l w hP hR (by omega) h1 h2).mono fun e w' ⟨he, hw⟩ => ⟨he, hw ▸ Tk.cut hP hb hR h1 h2 (by omega), hw ▸ only_store (only_refl w P) 0 _⟩
  · simp only [stS, ne_eq, h0, not_false_eq_true, if_true]
    exact (takenS_bad P _ er n w hP (by simpa using h0)).mono fun e w' ⟨he, hw⟩ => ⟨he, hw ▸ h', hw ▸ only_refl w P⟩
theorem takenN_any (base P : Nat) (l : List UInt8) (er size : Int) (w : World) (h : Tk w base P l er) (hs1 : 1 ≤ size) (hs8 : size ≤ 8) :
    Calls Tryd.prog 62 #[.pointer (some ⟨P, 0, none⟩), .int .i64 size, .func (.func 63) #[] #[]] w (NumEnd base P w (stN l er size).1 (stN l er size).2.1 (stN l er size).2.2) := by
  have h' := h
  obtain ⟨A, c, hP, hb, hR, h1, h2⟩ := h
  have hr : ¬ (size < 1 ∨ 8 < size) := by omega
  obtain ⟨n, rfl⟩ : ∃ n : Nat, size = (n : Int) := ⟨size.toNat, by omega⟩
  by_cases h0 : er = 0
  · subst h0
    by_cases hn : (l.length : Int) < (n : Int)
    · simp only [stN, ne_eq, not_true, if_false, if_pos hn, if_neg hr]
      exact (takenN_short P A _ c n w hP (by omega)).mono fun e w' ⟨he, hw⟩ => ⟨he, hw ▸ h'.failed 10, hw ▸ only_store (only_refl w P) 1 _⟩
    · simp only [stN, ne_eq, not_true, if_false, if_neg hn, if_neg hr, Int.toNat_natCast]
      exact (takenN_some P A c n base l w hP hR (by omega) (by omega) h1 h2).mono fun e w' ⟨he, hw⟩ => ⟨he, hw ▸ Tk.cut hP hb hR h1 h2 (by omega), hw ▸ only_store (only_refl w P) 0 _⟩
  · simp only [stN, ne_eq, h0, not_false_eq_true, if_true]
    exact (takenN_bad P _ er n w hP (by simpa using h0)).mono fun e w' ⟨he, hw⟩ => ⟨he, hw ▸ h', hw ▸ only_refl w P⟩
theorem takenB_any (base P : Nat) (l : List UInt8) (er : Int) (w : World) (h : Tk w base P l er) (hl : l.length ≤ 1000000) :
    Calls Tryd.prog 64 #[.pointer (some ⟨P, 0, none⟩), .int .i64 l.length, .func (.func 65) #[] #[]] w (BytEnd base P w (stS l er l.length).1 (stS l er l.length).2.1 (stS l er l.length).2.2) := by
  have h' := h
  obtain ⟨A, c, hP, hb, hR, h1, h2⟩ := h
  by_cases h0 : er = 0
  · subst h0
    simp only [stS, ne_eq, not_true, if_false, Nat.lt_irrefl, List.take_length, List.drop_length]
    refine (takenB_some P A c base l w hP hR hl h1 h2).mono fun e w' ⟨A', c', he, ha, hb', hc', hd⟩ => ?_
    have hk := Tk.cut hP hb hR h1 h2 (Nat.le_refl l.length)
    rw [Nat.sub_self, List.drop_length] at hk
    have ho := only_store (only_refl w P) 0 (.slice (if c = l.length then A else A.map (·.add l.length)) 0 (c - l.length))
    refine ⟨⟨A', c', he, ha, hb', hc'⟩, ?_, only_below ho (hd.mono (by simp [World.setCell]))⟩
    obtain ⟨A2, c2, hP2, hb2, hR2, h12, h22⟩ := hk
    have hlt := hP2.lt
    exact ⟨A2, c2, hP2.below hd (by simpa [World.setCell] using hP.lt), hb2, hR2.below (hd.mono (by simp [World.setCell])), h12, h22⟩
  · simp only [stS, ne_eq, h0, not_false_eq_true, if_true]
    exact (takenB_bad P _ er l.length w hP (by simpa using h0)).mono fun e w' ⟨he, hw⟩ => ⟨⟨none, 0, he, Nat.le_refl _, Nat.zero_le _, Row.empty⟩, hw ▸ h', hw ▸ only_refl w P⟩

end Go.Proofs.YtnponjdnjkegmaaDoor
end

section
namespace Go.Proofs.YtnponjdnjkegmaaDoor
open Go.RowKit
set_option linter.unusedVariables false

theorem tNum_any (base P : Nat) (l : List UInt8) (er size : Int) (w : World) (h : Tk w base P l er) :
    Calls Tryd.prog 54 #[.pointer (some ⟨P, 0, none⟩), .int .i64 size] w (NumEnd base P w (stN l er size).1 (stN l er size).2.1 (stN l er size).2.2) := by
  by_cases hs : size < 1 ∨ 8 < size
  · have h' := h
    obtain ⟨A, c, hP, hb, hR, h1, h2⟩ := h
    by_cases h0 : er = 0
    · subst h0
      simp only [stN, ne_eq, not_true, if_false, if_pos hs]
      have HS := Lib.hid hs
      have HT := Lib.hid h'
      clear h' hs hR h1 h2
      go_enter Tryd.func54, Tryd.ntmps54
      go_wp2_with (first | (go_at_call 53; refine (isSize_no _ _ HS.out).mono ?_; rintro e w' ⟨rfl, rfl⟩) | (go_at_call 61; refine (fail_first P _ 1 _ hP).mono ?_; rintro e w' ⟨rfl, rfl⟩))
      go_ret
      exact ⟨rfl, HT.out.failed 1, only_store (only_refl w P) 1 _⟩
    · simp only [stN, ne_eq, h0, not_false_eq_true, if_true]
      have hq : (er == 0) = false := by simpa using h0
      have HS := Lib.hid hs
      have HT := Lib.hid h'
      clear h' hs hR h1 h2 h0
      go_enter Tryd.func54, Tryd.ntmps54
      go_wp2_with (first | (go_at_call 53; refine (isSize_no _ _ HS.out).mono ?_; rintro e w' ⟨rfl, rfl⟩) | (go_at_call 61; refine (fail_again P _ er 1 _ hP hq).mono ?_; rintro e w' ⟨rfl, rfl⟩))
      go_ret
      exact ⟨rfl, HT.out, only_refl w P⟩
  · have h1 : 1 ≤ size := by omega
    have h8 : size ≤ 8 := by omega
    clear hs
    have HT := Lib.hid h
    clear h
    go_enter Tryd.func54, Tryd.ntmps54
    go_wp2_with (first | (go_at_call 53; refine (isSize_yes _ _ h1 h8).mono ?_; rintro e w' ⟨rfl, rfl⟩) | (go_at_call 62; refine (takenN_any base P l er size _ HT.out h1 h8).mono ?_; rintro e w' ⟨rfl, h3, h4⟩; have H3 := Lib.hid h3; have H4 := Lib.hid h4; clear h3 h4))
    go_ret
    exact ⟨rfl, H3.out, H4.out⟩

theorem stN_one (l : List UInt8) (er : Int) : (stN l er 1).1 ≤ 255 := by
  unfold stN
  split
  · simp
  · split
    · simp
    · split
      · simp
      · have := numOf_take_lt l 1 1 (Nat.le_refl _)
        simp only [Int.toNat_one] at this ⊢
        omega

theorem tText_any (base P : Nat) (l : List UInt8) (er : Int) (w : World) (h : Tk w base P l er) :
    Calls Tryd.prog 47 #[.pointer (some ⟨P, 0, none⟩)] w (StrEnd base P w (stT l er).1 (stT l er).2.1 (stT l er).2.2) := by
  have HT := Lib.hid h
  clear h
  have hx := stN_one l er
  unfold stT
  obtain ⟨x, l1, er1, hst⟩ : ∃ x l1 er1, stN l er 1 = (x, l1, er1) := ⟨_, _, _, rfl⟩
  have HN := Lib.hid (tNum_any base P l er 1 w HT.out)
  rw [hst] at hx HN ⊢
  simp only at hx HN ⊢
  clear hst
  go_enter Tryd.func47, Tryd.ntmps47
  go_wp2_with (first | (go_at_call 54; refine HN.out.mono ?_; rintro e w1 ⟨rfl, h3, h4⟩; have H3 := Lib.hid h3; have H4 := Lib.hid h4; clear h3 h4) | (go_at_call 57; refine (takenS_any base P l1 er1 x _ H3.out).mono ?_; rintro e w2 ⟨rfl, h5, h6⟩; have H5 := Lib.hid h5; have H6 := Lib.hid h6; clear h5 h6))
  go_ret
  exact ⟨rfl, H5.out, only_trans H4.out H6.out⟩

theorem tRest_any (base P : Nat) (l : List UInt8) (er : Int) (w : World) (h : Tk w base P l er) (hl : l.length ≤ 1000000) :
    Calls Tryd.prog 55 #[.pointer (some ⟨P, 0, none⟩)] w (BytEnd base P w (stS l er l.length).1 (stS l er l.length).2.1 (stS l er l.length).2.2) := by
  obtain ⟨A, c, hP, _⟩ := id h
  have hc := hP.cell0
  have HT := Lib.hid (takenB_any base P l er w h hl)
  clear h hP
  go_enter Tryd.func55, Tryd.ntmps55
  go_wp2_with (first | (go_at_call 64; refine HT.out.mono ?_; rintro e w1 ⟨⟨A', c', rfl, h1, h2, h3⟩, h4, h5⟩; have H3 := Lib.hid h3; have H4 := Lib.hid h4; have H5 := Lib.hid h5; clear h3 h4 h5))
  go_ret
  exact ⟨⟨A', c', rfl, h1, h2, H3.out⟩, H4.out, H5.out⟩

/-! Err, Done over Tk -/
def dn (l : List UInt8) (er : Int) : Int := if er ≠ 0 then er else if 0 < l.length then 11 else 0
theorem tDone_any {base P : Nat} {l : List UInt8} {er : Int} {w : World} (h : Tk w base P l er) : Calls Tryd.prog 56 #[.pointer (some ⟨P, 0, none⟩)] w fun e w' => e = .returned (.int .i64 (dn l er)) ∧ w = w' := by
  obtain ⟨A, c, hP, _⟩ := h
  unfold dn
  by_cases h0 : er = 0
  · subst h0
    by_cases hl : 0 < l.length
    · simp only [ne_eq, not_true, if_false, if_pos hl]
      exact done_left P A _ c w hP hl
    · have : l.length = 0 := by omega
      rw [this] at hP
      simp only [ne_eq, not_true, if_false, if_neg hl]
      exact done_ok P A c w hP
  · simp only [ne_eq, h0, not_false_eq_true, if_true]
    exact done_bad P _ er w hP (by simpa using h0)
theorem Tk.below {w w' : World} {base P : Nat} {l : List UInt8} {er : Int} (h : Tk w base P l er) (hb : Below w.heap.size w w') : Tk w' base P l er := by
  obtain ⟨A, c, hP, h0, hR, h1, h2⟩ := h
  exact ⟨A, c, hP.below hb hP.lt, h0, hR.below hb, h1, h2⟩
theorem Tk.away {w w' : World} {base P g : Nat} {l : List UInt8} {er : Int} (h : Tk w base P l er) (hg : w.grownBy w' (some g)) (hb : g < base) : Tk w' base P l er := by
  obtain ⟨A, c, hP, h0, hR, h1, h2⟩ := h
  exact ⟨A, c, hP.grown hg (by intro e; injection e with e; omega), h0, hR.away hb hg, h1, h2⟩
theorem Tk.beside {w w' : World} {base P Q : Nat} {t : TypeId} {cs : Array Value} {l : List UInt8} {er : Int} (h : Tk w base P l er) (hQ : Has w Q t cs) (h50 : 112 ≠ t) (h5 : 5 ≠ t) (hg : w.grownBy w' (some Q)) : Tk w' base P l er := by
  obtain ⟨A, c, hP, h0, hR, h1, h2⟩ := h
  exact ⟨A, c, hP.grown hg (by intro e; injection e with e; exact hP.apart hQ h50 e), h0, hR.grown hQ h5 hg, h1, h2⟩
theorem own_num (w : World) (x n : Nat) (hn : n ≤ 8) : (w.alloc (.cells ((numB x n).map byteV).toArray 5)).ownsRow w.heap.size 5 1 (.slice (some ⟨w.heap.size, 0, none⟩) n n) n ((numB x n).map byteV) :=
  ⟨by simp [numB_len], .inr ⟨w.heap.size, n, _, rfl, Nat.le_refl _, heap_alloc_new w _, Nat.le_refl _, by unfold maxLen; omega, by simp [numB_len], by rw [List.toList_toArray]; exact List.take_of_length_le (by simp [numB_len])⟩⟩
theorem own_low {w : World} {b b' : Nat} {e : TypeId} {s n : Nat} {v : Value} {xs : List Value} (h : w.ownsRow b e s v n xs) (hb : b' ≤ b) : w.ownsRow b' e s v n xs :=
  ⟨h.1, h.2.imp id (fun ⟨g, cap, cur, h1, h2, h3⟩ => ⟨g, cap, cur, h1, Nat.le_trans hb h2, h3⟩)⟩
theorem tk_base {w : World} {base P : Nat} {l : List UInt8} {er : Int} (h : Tk w base P l er) : base ≤ P := by
  obtain ⟨_, _, _, hb, _⟩ := h
  exact hb
end Go.Proofs.YtnponjdnjkegmaaDoor
end
