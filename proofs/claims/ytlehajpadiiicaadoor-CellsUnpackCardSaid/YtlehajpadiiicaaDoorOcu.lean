/- The Taker's methods: contracts, no statement. -/
import Derived.Test.YtlehajpadiiicaaDoorOct
import Derived.Deep.DeepFit
namespace Go.Proofs.YtlehajpadiiicaaDoor
open Go.RowKit
set_option linter.unusedVariables false


theorem takenN_nil (n : Int) (w : World) : Calls Tryd.prog 36 #[.pointer none, .int .i64 n, .func (.func 37) #[] #[]] w fun e w' => e = .returned (.int .u64 0) ∧ w = w' := by
  go_enter Tryd.func36, Tryd.ntmps36
  go_wp2_with (go_at_call 40; refine (err_nil _).mono ?_; rintro e w' ⟨rfl, rfl⟩)
  go_ret
  exact ⟨rfl, rfl⟩
theorem takenN_bad (P : Nat) (v : Value) (er : Int) (n : Int) (w : World) (h : Has w P 67 #[v, .int .i64 er]) (h0 : (er == 0) = false) :
    Calls Tryd.prog 36 #[.pointer (some ⟨P, 0, none⟩), .int .i64 n, .func (.func 37) #[] #[]] w fun e w' => e = .returned (.int .u64 0) ∧ w = w' := by
  have h1 : (er != 0) = true := by simp at h0 ⊢; exact h0
  go_enter Tryd.func36, Tryd.ntmps36
  go_wp2_with (go_at_call 40; refine (err_some P v er _ h).mono ?_; rintro e w' ⟨rfl, rfl⟩)
  go_ret
  exact ⟨rfl, rfl⟩
theorem takenN_short (P : Nat) (A : Option Addr) (m c : Nat) (n : Int) (w : World) (h : Has w P 67 #[.slice A m c, .int .i64 0]) (hn : (m : Int) < n) :
    Calls Tryd.prog 36 #[.pointer (some ⟨P, 0, none⟩), .int .i64 n, .func (.func 37) #[] #[]] w fun e w' => e = .returned (.int .u64 0) ∧ w.setCell ⟨P, 1, none⟩ (.int .i64 10) = w' := by
  have hc := h.cell0
  go_enter Tryd.func36, Tryd.ntmps36
  go_wp2_with (first | (go_at_call 40; refine (err_some P _ 0 _ h).mono ?_; rintro e w' ⟨rfl, rfl⟩) | (go_at_call 35; refine (fail_first P _ 10 _ h).mono ?_; rintro e w' ⟨rfl, rfl⟩))
  go_ret
  exact ⟨rfl, rfl⟩
set_option maxHeartbeats 400000 in
theorem takenN_some (P : Nat) (A : Option Addr) (c k base : Nat) (l : List UInt8) (w : World) (h : Has w P 67 #[.slice A l.length c, .int .i64 0]) (hR : Row w 5 base A (l.map byteV)) (hk : k ≤ l.length) (h8 : k ≤ 8) (hlc : l.length ≤ c) (hcm : c ≤ maxLen) :
    Calls Tryd.prog 36 #[.pointer (some ⟨P, 0, none⟩), .int .i64 k, .func (.func 37) #[] #[]] w fun e w' => e = .returned (.int .u64 (numOf (l.take k) : Int)) ∧ w.setCell ⟨P, 0, none⟩ (.slice (if c = k then A else A.map (·.add k)) (l.length - k) (c - k)) = w' := by
  have hc := h.cell0
  have hf := h.free 0
  unfold maxLen at hcm
  have HR := Lib.hid hR
  have HT : Hid (∀ k : Nat, Reads (w.setCell ⟨P, 0, none⟩ (.slice (if c = k then A else A.map (·.add k)) (l.length - k) (c - k))) A ((l.take k).map byteV)) := by
    intro k
    have := (hR.store h (by decide) 0 (.slice (if c = k then A else A.map (·.add k)) (l.length - k) (c - k))).reads.take k
    rw [List.map_take]
    exact this
  clear hR
  go_enter Tryd.func36, Tryd.ntmps36
  go_wp2_with (first | (go_at_call 40; refine (err_some P _ 0 _ h).mono ?_; rintro e w' ⟨rfl, rfl⟩) | (go_at_call 37; refine (cloN_any A k _ (l.take k) _ (by simp; omega) (by omega) (HT.out k)).mono ?_; rintro e w' ⟨rfl, rfl⟩))
  all_goals (go_ret; exact ⟨rfl, rfl⟩)

theorem takenB_nil (n : Int) (w : World) : Calls Tryd.prog 38 #[.pointer none, .int .i64 n, .func (.func 39) #[] #[]] w fun e w' => e = .returned (.slice none 0 0) ∧ w = w' := by
  go_enter Tryd.func38, Tryd.ntmps38
  go_wp2_with (go_at_call 40; refine (err_nil _).mono ?_; rintro e w' ⟨rfl, rfl⟩)
  go_ret
  exact ⟨rfl, rfl⟩
theorem takenB_bad (P : Nat) (v : Value) (er : Int) (n : Int) (w : World) (h : Has w P 67 #[v, .int .i64 er]) (h0 : (er == 0) = false) :
    Calls Tryd.prog 38 #[.pointer (some ⟨P, 0, none⟩), .int .i64 n, .func (.func 39) #[] #[]] w fun e w' => e = .returned (.slice none 0 0) ∧ w = w' := by
  have h1 : (er != 0) = true := by simp at h0 ⊢; exact h0
  go_enter Tryd.func38, Tryd.ntmps38
  go_wp2_with (go_at_call 40; refine (err_some P v er _ h).mono ?_; rintro e w' ⟨rfl, rfl⟩)
  go_ret
  exact ⟨rfl, rfl⟩
theorem takenB_short (P : Nat) (A : Option Addr) (m c : Nat) (n : Int) (w : World) (h : Has w P 67 #[.slice A m c, .int .i64 0]) (hn : (m : Int) < n) :
    Calls Tryd.prog 38 #[.pointer (some ⟨P, 0, none⟩), .int .i64 n, .func (.func 39) #[] #[]] w fun e w' => e = .returned (.slice none 0 0) ∧ w.setCell ⟨P, 1, none⟩ (.int .i64 10) = w' := by
  have hc := h.cell0
  go_enter Tryd.func38, Tryd.ntmps38
  go_wp2_with (first | (go_at_call 40; refine (err_some P _ 0 _ h).mono ?_; rintro e w' ⟨rfl, rfl⟩) | (go_at_call 35; refine (fail_first P _ 10 _ h).mono ?_; rintro e w' ⟨rfl, rfl⟩))
  go_ret
  exact ⟨rfl, rfl⟩
set_option maxHeartbeats 400000 in
theorem takenB_some (P : Nat) (A : Option Addr) (c base : Nat) (l : List UInt8) (w : World) (h : Has w P 67 #[.slice A l.length c, .int .i64 0]) (hR : Row w 5 base A (l.map byteV)) (hl : l.length ≤ 1000000) (hlc : l.length ≤ c) (hcm : c ≤ maxLen) :
    Calls Tryd.prog 38 #[.pointer (some ⟨P, 0, none⟩), .int .i64 l.length, .func (.func 39) #[] #[]] w (Fresh w.heap.size l (w.setCell ⟨P, 0, none⟩ (.slice (if c = l.length then A else A.map (·.add l.length)) 0 (c - l.length)))) := by
  have hc := h.cell0
  have hf := h.free 0
  unfold maxLen at hcm
  have HT : Hid (Reads (w.setCell ⟨P, 0, none⟩ (.slice (if c = l.length then A else A.map (·.add l.length)) 0 (c - l.length))) A (l.map byteV)) := (hR.store h (by decide) 0 _).reads
  clear hR
  by_cases hcl : c = l.length
  · subst hcl
    simp only [if_pos, Nat.sub_self] at HT ⊢
    go_enter Tryd.func38, Tryd.ntmps38
    go_wp2_with (first | (go_at_call 40; refine (err_some P _ 0 _ h).mono ?_; rintro e w' ⟨rfl, rfl⟩) | (go_at_call 39; refine (cloB_any A _ l _ hl HT.out).mono ?_; rintro e w' ⟨A', c', rfl, h1, h2, h3, h4⟩; have H3 := Lib.hid h3; have H4 := Lib.hid h4; clear h3 h4))
    go_ret
    exact ⟨A', c', rfl, h1, h2, (H3.out).low (by simp), (H4.out).mono (by simp)⟩
  · simp only [if_neg hcl] at HT ⊢
    have hcl2 : ¬ (c = l.length) := hcl
    go_enter Tryd.func38, Tryd.ntmps38
    go_wp2_with (first | (go_at_call 40; refine (err_some P _ 0 _ h).mono ?_; rintro e w' ⟨rfl, rfl⟩) | (go_at_call 39; refine (cloB_any A _ l _ hl HT.out).mono ?_; rintro e w' ⟨A', c', rfl, h1, h2, h3, h4⟩; have H3 := Lib.hid h3; have H4 := Lib.hid h4; clear h3 h4))
    go_ret
    exact ⟨A', c', rfl, h1, h2, (H3.out).low (by simp), (H4.out).mono (by simp)⟩

/-! What the Taker's steps do to (what is left, the error). -/
def stS (l : List UInt8) (er : Int) (n : Nat) : List UInt8 × List UInt8 × Int := if er ≠ 0 then ([], l, er) else if l.length < n then ([], l, 10) else (l.take n, l.drop n, 0)
def stN (l : List UInt8) (er : Int) (size : Int) : Nat × List UInt8 × Int :=
  if er ≠ 0 then (0, l, er) else if size < 1 ∨ 8 < size then (0, l, 1) else if (l.length : Int) < size then (0, l, 10) else (numOf (l.take size.toNat), l.drop size.toNat, 0)
def stT (l : List UInt8) (er : Int) : List UInt8 × List UInt8 × Int := stS (stN l er 1).2.1 (stN l er 1).2.2 (stN l er 1).1

/-- A step's end: the number x, and the Taker as it then is. -/
def NumEnd (base P : Nat) (w : World) (x : Nat) (l : List UInt8) (er : Int) (e : Ending) (w' : World) : Prop := e = .returned (.int .u64 (x : Int)) ∧ Tk w' base P l er ∧ w.grownBy w' (some P)
def StrEnd (base P : Nat) (w : World) (s : List UInt8) (l : List UInt8) (er : Int) (e : Ending) (w' : World) : Prop := e = .returned (.string ⟨s.toArray⟩) ∧ Tk w' base P l er ∧ w.grownBy w' (some P)
def BytEnd (base P : Nat) (w : World) (s : List UInt8) (l : List UInt8) (er : Int) (e : Ending) (w' : World) : Prop :=
  (∃ A c, e = .returned (.slice A s.length c) ∧ s.length ≤ c ∧ c ≤ maxLen ∧ Row w' 5 w.heap.size A (s.map byteV)) ∧ Tk w' base P l er ∧ w.grownBy w' (some P)

theorem Tk.failed {w : World} {base P : Nat} {l : List UInt8} {er : Int} (h : Tk w base P l er) (er' : Int) : Tk (w.setCell ⟨P, 1, none⟩ (.int .i64 er')) base P l er' := by
  obtain ⟨A, c, hP, hb, hR, h1, h2⟩ := h
  exact ⟨A, c, by have := hP.store 1 (.int .i64 er'); simpa using this, hb, hR.store hP (by decide) 1 _, h1, h2⟩
theorem Tk.cut {w : World} {base P c k : Nat} {A : Option Addr} {l : List UInt8} (hP : Has w P 67 #[.slice A l.length c, .int .i64 0]) (hb : base ≤ P) (hR : Row w 5 base A (l.map byteV)) (h1 : l.length ≤ c) (h2 : c ≤ maxLen) (hk : k ≤ l.length) :
    Tk (w.setCell ⟨P, 0, none⟩ (.slice (if c = k then A else A.map (·.add k)) (l.length - k) (c - k))) base P (l.drop k) 0 := by
  refine ⟨if c = k then A else A.map (·.add k), c - k, ?_, hb, ?_, by simp; omega, by omega⟩
  · have := hP.store 0 (.slice (if c = k then A else A.map (·.add k)) (l.length - k) (c - k))
    simpa using this
  · have := (hR.drop (k := k) (cap := c) (by simpa using h1)).store hP (by decide) 0 (.slice (if c = k then A else A.map (·.add k)) (l.length - k) (c - k))
    rw [List.map_drop]
    exact this

theorem takenN_any (base P : Nat) (l : List UInt8) (er size : Int) (w : World) (h : Tk w base P l er) (hs1 : 1 ≤ size) (hs8 : size ≤ 8) :
    Calls Tryd.prog 36 #[.pointer (some ⟨P, 0, none⟩), .int .i64 size, .func (.func 37) #[] #[]] w (NumEnd base P w (stN l er size).1 (stN l er size).2.1 (stN l er size).2.2) := by
  have h' := h
  obtain ⟨A, c, hP, hb, hR, h1, h2⟩ := h
  have hr : ¬ (size < 1 ∨ 8 < size) := by omega
  obtain ⟨n, rfl⟩ : ∃ n : Nat, size = (n : Int) := ⟨size.toNat, by omega⟩
  by_cases h0 : er = 0
  · subst h0
    by_cases hn : (l.length : Int) < (n : Int)
    · simp only [stN, ne_eq, not_true, if_false, if_pos hn, if_neg hr]
      exact (takenN_short P A _ c n w hP (by omega)).mono fun e w' ⟨he, hw⟩ => ⟨he, hw ▸ h'.failed 10, hw ▸ only_store (only_refl w P) 1 _⟩
    · simp only [stN, ne_eq, not_true, if_false, if_neg hn, if_neg hr, Int.toNat_natCast]
      exact (takenN_some P A c n base l w hP hR (by omega) (by omega) h1 h2).mono fun e w' ⟨he, hw⟩ => ⟨he, hw ▸ Tk.cut hP hb hR h1 h2 (by omega), hw ▸ only_store (only_refl w P) 0 _⟩
  · simp only [stN, ne_eq, h0, not_false_eq_true, if_true]
    exact (takenN_bad P _ er n w hP (by simpa using h0)).mono fun e w' ⟨he, hw⟩ => ⟨he, hw ▸ h', hw ▸ only_refl w P⟩
theorem takenB_any (base P : Nat) (l : List UInt8) (er : Int) (w : World) (h : Tk w base P l er) (hl : l.length ≤ 1000000) :
    Calls Tryd.prog 38 #[.pointer (some ⟨P, 0, none⟩), .int .i64 l.length, .func (.func 39) #[] #[]] w (BytEnd base P w (stS l er l.length).1 (stS l er l.length).2.1 (stS l er l.length).2.2) := by
  have h' := h
  obtain ⟨A, c, hP, hb, hR, h1, h2⟩ := h
  by_cases h0 : er = 0
  · subst h0
    simp only [stS, ne_eq, not_true, if_false, Nat.lt_irrefl, List.take_length, List.drop_length]
    refine (takenB_some P A c base l w hP hR hl h1 h2).mono fun e w' ⟨A', c', he, ha, hb', hc', hd⟩ => ?_
    have hk := Tk.cut hP hb hR h1 h2 (Nat.le_refl l.length)
    rw [Nat.sub_self, List.drop_length] at hk
    have ho := only_store (only_refl w P) 0 (.slice (if c = l.length then A else A.map (·.add l.length)) 0 (c - l.length))
    refine ⟨⟨A', c', he, ha, hb', hc'⟩, ?_, only_below ho (hd.mono (by simp [World.setCell]))⟩
    obtain ⟨A2, c2, hP2, hb2, hR2, h12, h22⟩ := hk
    have hlt := hP2.lt
    exact ⟨A2, c2, hP2.below hd (by simpa [World.setCell] using hP.lt), hb2, hR2.below (hd.mono (by simp [World.setCell])), h12, h22⟩
  · simp only [stS, ne_eq, h0, not_false_eq_true, if_true]
    exact (takenB_bad P _ er l.length w hP (by simpa using h0)).mono fun e w' ⟨he, hw⟩ => ⟨⟨none, 0, he, Nat.le_refl _, Nat.zero_le _, Row.empty⟩, hw ▸ h', hw ▸ only_refl w P⟩

end Go.Proofs.YtlehajpadiiicaaDoor
