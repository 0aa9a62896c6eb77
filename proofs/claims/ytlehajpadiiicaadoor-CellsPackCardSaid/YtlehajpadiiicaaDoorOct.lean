/- What each function of package octet does to memory, in my own words: contracts, no statement. -/
import Derived.Test.YtlehajpadiiicaaDoorNum
namespace Go.Proofs.YtlehajpadiiicaaDoor
open Go.RowKit

/-! the Taker's errors -/
theorem err_nil (w : World) : Calls Tryd.prog 40 #[.pointer none] w fun e w' => e = .returned (.int .i64 1) ∧ w = w' := by
  go_enter Tryd.func40, Tryd.ntmps40
  go_wp2
  go_ret
  exact ⟨rfl, rfl⟩
theorem err_some (P : Nat) (v : Value) (er : Int) (w : World) (h : Has w P 67 #[v, .int .i64 er]) : Calls Tryd.prog 40 #[.pointer (some ⟨P, 0, none⟩)] w fun e w' => e = .returned (.int .i64 er) ∧ w = w' := by
  have hc := h.cell1
  go_enter Tryd.func40, Tryd.ntmps40
  go_wp2
  go_ret
  exact ⟨rfl, rfl⟩

theorem fail_nil (er : Int) (w : World) : Calls Tryd.prog 35 #[.pointer none, .int .i64 er] w fun e w' => e = .returned (.tuple #[]) ∧ w = w' := by
  go_enter Tryd.func35, Tryd.ntmps35
  go_wp2_with (go_at_call 40; refine (err_nil _).mono ?_; rintro e w' ⟨rfl, rfl⟩)
  go_end0
  exact ⟨rfl, rfl⟩
theorem fail_first (P : Nat) (v : Value) (er : Int) (w : World) (h : Has w P 67 #[v, .int .i64 0]) :
    Calls Tryd.prog 35 #[.pointer (some ⟨P, 0, none⟩), .int .i64 er] w fun e w' => e = .returned (.tuple #[]) ∧ w.setCell ⟨P, 1, none⟩ (.int .i64 er) = w' := by
  have hc := h.cell1
  have hf := h.free 1
  go_enter Tryd.func35, Tryd.ntmps35
  go_wp2_with (go_at_call 40; refine (err_some P v 0 _ h).mono ?_; rintro e w' ⟨rfl, rfl⟩)
  go_end0
  exact ⟨rfl, rfl⟩
theorem fail_again (P : Nat) (v : Value) (er0 er : Int) (w : World) (h : Has w P 67 #[v, .int .i64 er0]) (h0 : (er0 == 0) = false) :
    Calls Tryd.prog 35 #[.pointer (some ⟨P, 0, none⟩), .int .i64 er] w fun e w' => e = .returned (.tuple #[]) ∧ w = w' := by
  go_enter Tryd.func35, Tryd.ntmps35
  go_wp2_with (go_at_call 40; refine (err_some P v er0 _ h).mono ?_; rintro e w' ⟨rfl, rfl⟩)
  go_end0
  exact ⟨rfl, rfl⟩

theorem done_nil (w : World) : Calls Tryd.prog 32 #[.pointer none] w fun e w' => e = .returned (.int .i64 1) ∧ w = w' := by
  go_enter Tryd.func32, Tryd.ntmps32
  go_wp2_with (go_at_call 40; refine (err_nil _).mono ?_; rintro e w' ⟨rfl, rfl⟩)
  go_ret
  exact ⟨rfl, rfl⟩
theorem done_bad (P : Nat) (v : Value) (er : Int) (w : World) (h : Has w P 67 #[v, .int .i64 er]) (h0 : (er == 0) = false) :
    Calls Tryd.prog 32 #[.pointer (some ⟨P, 0, none⟩)] w fun e w' => e = .returned (.int .i64 er) ∧ w = w' := by
  have h1 : (er != 0) = true := by simp at h0 ⊢; exact h0
  go_enter Tryd.func32, Tryd.ntmps32
  go_wp2_with (go_at_call 40; refine (err_some P v er _ h).mono ?_; rintro e w' ⟨rfl, rfl⟩)
  go_ret
  exact ⟨rfl, rfl⟩
theorem done_left (P : Nat) (A : Option Addr) (n c : Nat) (w : World) (h : Has w P 67 #[.slice A n c, .int .i64 0]) (hn : 0 < n) :
    Calls Tryd.prog 32 #[.pointer (some ⟨P, 0, none⟩)] w fun e w' => e = .returned (.int .i64 11) ∧ w = w' := by
  have hc := h.cell0
  have h1 : (0 : Int) < (n : Int) := by omega
  go_enter Tryd.func32, Tryd.ntmps32
  go_wp2_with (go_at_call 40; refine (err_some P _ 0 _ h).mono ?_; rintro e w' ⟨rfl, rfl⟩)
  go_ret
  exact ⟨rfl, rfl⟩
theorem done_ok (P : Nat) (A : Option Addr) (c : Nat) (w : World) (h : Has w P 67 #[.slice A 0 c, .int .i64 0]) :
    Calls Tryd.prog 32 #[.pointer (some ⟨P, 0, none⟩)] w fun e w' => e = .returned (.int .i64 0) ∧ w = w' := by
  have hc := h.cell0
  go_enter Tryd.func32, Tryd.ntmps32
  go_wp2_with (go_at_call 40; refine (err_some P _ 0 _ h).mono ?_; rintro e w' ⟨rfl, rfl⟩)
  go_ret
  exact ⟨rfl, rfl⟩

/-! the three closures -/

/-- The number that bytes make, the highest first, as the closure reckons it. -/
def numOf (l : List UInt8) : Nat := l.foldl (fun x c => x * 256 + c.toNat) 0
theorem numOf_snoc (l : List UInt8) (c : UInt8) : numOf (l ++ [c]) = numOf l * 256 + c.toNat := by simp [numOf]
theorem numOf_lt (l : List UInt8) : ∀ x m : Nat, x < 256 ^ m → l.foldl (fun x c => x * 256 + c.toNat) x < 256 ^ (m + l.length) := by
  induction l with
  | nil => intro x m h; simpa using h
  | cons c l ih =>
    intro x m h
    have hc := c.toNat_lt
    have := ih (x * 256 + c.toNat) (m + 1) (by rw [Nat.pow_succ]; omega)
    rw [List.length_cons, Nat.add_comm l.length 1, ← Nat.add_assoc]
    exact this
theorem numOf_take_lt (l : List UInt8) (k m : Nat) (hk : k ≤ m) : numOf (l.take k) < 256 ^ m := by
  have h := numOf_lt (l.take k) 0 0 (by simp)
  have h2 : 256 ^ (0 + (l.take k).length) ≤ 256 ^ m := Nat.pow_le_pow_right (by omega) (by simp; omega)
  exact Nat.lt_of_lt_of_le h h2
theorem or_join (x : Nat) (d : UInt8) (hx : x < 256 ^ 7) : bits .or .u64 ((x : Int) * 256) (d.toNat : Int) = ((x * 256 + d.toNat : Nat) : Int) := by
  have hd := d.toNat_lt
  have h : ((x : Int) * 256) = ((x * 256 : Nat) : Int) := by omega
  rw [h, u64_or_nat _ _ (by omega) (by omega)]
  have := Nat.two_pow_add_eq_or_of_lt (b := d.toNat) (i := 8) (by omega) x
  have h2 : 2 ^ 8 * x = x * 256 := by omega
  rw [h2] at this
  rw [this]
set_option maxHeartbeats 400000 in
theorem cloN_any (A : Option Addr) (n c : Nat) (l : List UInt8) (w : World) (hn : n = l.length) (h8 : n ≤ 8) (h : Reads w A (l.map byteV)) :
    Calls Tryd.prog 37 #[.slice A n c] w fun e w' => e = .returned (.int .u64 (numOf l : Int)) ∧ w = w' := by
  have HN := Lib.hid hn
  have HR := Lib.hid h
  clear hn h
  go_enter Tryd.func37, Tryd.ntmps37
  go_wp2
  go_loop [3, 8] (fun x i => ∃ k : Nat, k ≤ n ∧ i = .int .i64 k ∧ x = .int .u64 (numOf (l.take k) : Int)) (fun _ i => n - (intOf i).toNat)
  case atStart => exact ⟨0, Nat.zero_le _, rfl, rfl⟩
  case round =>
    obtain ⟨k, hk, rfl, rfl⟩ := hrel
    by_cases hlt : k < n
    · have hkl : k < l.length := by have := HN.out; omega
      obtain ⟨b, off, hA, hcell⟩ := HR.out (by simp; omega)
      obtain ⟨d, hd⟩ : ∃ d, l[k]? = some d := ⟨_, List.getElem?_eq_getElem hkl⟩
      have hc := hcell k (byteV d) (by simp [hd])
      unfold byteV at hc
      clear hcell
      have HD := Lib.hid hd
      clear hd
      subst hA
      have hb := numOf_take_lt l k 7 (by omega)
      have hd2 := d.toNat_lt
      generalize hx : numOf (l.take k) = x at hb
      have HX := Lib.hid hx
      clear hx
      go_wp2
      go_round
      case rel => exact ⟨k + 1, by omega, by go_num, by rw [or_join x d hb, take_more HD.out, numOf_snoc, HX.out]⟩
      case measure => simp [intOf]; omega
    · go_wp2
      go_ret
      exact ⟨ret_u64 (by rw [List.take_of_length_le (by have := HN.out; omega)]), rfl⟩

theorem clone_nil (c : Nat) (w : World) : Calls Tryd.prog 24 #[.slice none 0 c] w fun e w' => e = .returned (.slice none 0 0) ∧ w = w' := by
  have hq := eq_nil_yes 0 c
  go_enter Tryd.func24, Tryd.ntmps24
  go_wp2
  go_ret
  exact ⟨rfl, rfl⟩
theorem clone_some (a : Addr) (c : Nat) (l : List UInt8) (w : World) (hl : l.length ≤ 1000000) (h : Reads w (some a) (l.map byteV)) :
    Calls Tryd.prog 24 #[.slice (some a) l.length c] w (Fresh w.heap.size l w) := by
  have hcl : ∀ j u, (l.map byteV)[j]? = some u → (w.alloc (.cells #[] 5)).cell? (a.add j) = some u := by
    intro j u hj
    obtain ⟨g, off, hA, hc⟩ := h (by
      have := (List.getElem?_eq_some_iff.1 hj).1
      omega)
    injection hA with hA
    subst hA
    rw [add_plain]
    have hc2 := hc j u hj
    exact (World.cell?_alloc_lt w _ _ (World.block_lt_of_cell? w _ hc2)).trans hc2
  have HC := Lib.hid hcl
  have HR := Lib.hid h
  clear h hcl
  obtain ⟨i0, hi, hz0, hz1, hz2⟩ := info_parts u8info
  have hq := eq_nil_no a l.length c
  go_enter Tryd.func24, Tryd.ntmps24
  go_wp2_with (at_builtin; refine wpList_append_own _ rfl _ _ 25 rfl w.heap.size 5 i0 (.int .u8 0) 1 1 Tryd.underlying25 hi hz0 hz1 hz2 rfl (by decide) _ _ _ rfl (own_new w) a l.length c (l.map byteV) rfl (by simp) HC.out (one_byteV l) (by unfold maxLen; omega) (by omega) (by simp) ?_; intro v' w1 hown hgrow hnil; have HO := Lib.hid hown; have HG := Lib.hid hgrow; clear hown hgrow hnil)
  go_ret
  have ho := HO.out
  rw [Nat.zero_add, List.nil_append] at ho
  exact fresh_of ho ((Below.refl _ w).alloc (Nat.le_refl _) _) HG.out (by simp)

theorem clone_any (A : Option Addr) (c : Nat) (l : List UInt8) (w : World) (hl : l.length ≤ 1000000) (h : Reads w A (l.map byteV)) :
    Calls Tryd.prog 24 #[.slice A l.length c] w (Fresh w.heap.size l w) := by
  rcases A with _ | a
  · have h0 : l = [] := by
      rcases l with _ | ⟨d, l⟩
      · rfl
      · obtain ⟨g, off, ha, _⟩ := h (by simp)
        cases ha
    subst h0
    exact (clone_nil c w).mono fun e w' ⟨he, hw⟩ => ⟨none, 0, by rw [he]; rfl, Nat.le_refl _, Nat.zero_le _, Row.empty, by rw [hw]; exact Below.refl _ _⟩
  · exact clone_some a c l w hl h

theorem cloB_any (A : Option Addr) (c : Nat) (l : List UInt8) (w : World) (hl : l.length ≤ 1000000) (h : Reads w A (l.map byteV)) :
    Calls Tryd.prog 39 #[.slice A l.length c] w (Fresh w.heap.size l w) := by
  have HK := Lib.hid (clone_any A c l w hl h)
  clear h
  go_enter Tryd.func39, Tryd.ntmps39
  go_wp2_with (go_at_call 24; refine HK.out.mono ?_; rintro e w' ⟨A', c', rfl, h1, h2, h3, h4⟩; have H3 := Lib.hid h3; have H4 := Lib.hid h4; clear h3 h4)
  go_ret
  exact ⟨A', c', rfl, h1, h2, H3.out, H4.out⟩

/-- A Taker at block P, from 'base' on: what it still holds, and its error. -/
def Tk (w : World) (base P : Nat) (l : List UInt8) (er : Int) : Prop :=
  ∃ A c, Has w P 67 #[.slice A l.length c, .int .i64 er] ∧ base ≤ P ∧ Row w 5 base A (l.map byteV) ∧ l.length ≤ c ∧ c ≤ maxLen
/-- What Take leaves. -/
def Made (W : Nat) (l : List UInt8) (w : World) (e : Ending) (w' : World) : Prop := ∃ P, e = .returned (.pointer (some ⟨P, 0, none⟩)) ∧ Tk w' W P l 0 ∧ Below W w w'

theorem Take_any (A : Option Addr) (c : Nat) (l : List UInt8) (w : World) (hl : l.length ≤ 1000000) (h : Reads w A (l.map byteV)) :
    Calls Tryd.prog 29 #[.slice A l.length c] w (Made w.heap.size l w) := by
  have HK := Lib.hid (clone_any A c l w hl h)
  clear h
  go_enter Tryd.func29, Tryd.ntmps29
  go_wp2_with (go_at_call 24; refine HK.out.mono ?_; rintro e w1 ⟨A', c', rfl, h1, h2, h3, h4⟩; have H3 := Lib.hid h3; have H4 := Lib.hid h4; clear h3 h4)
  go_ret
  exact ⟨_, rfl, ⟨A', c', Has.made _ _ _, H4.out.size, H3.out.alloc _, h1, h2⟩, H4.out.alloc H4.out.size _⟩

end Go.Proofs.YtlehajpadiiicaaDoor
