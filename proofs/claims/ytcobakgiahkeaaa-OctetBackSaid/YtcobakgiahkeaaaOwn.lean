/- The walk of the law OctetOwn. -/
import Derived.Test.YtcobakgiahkeaaaRefa
import Derived.Test.YtcobakgiahkeaaaTakes
namespace Go.Proofs.Ytcobakgiahkeaaa
open Go.RowKit
set_option linter.unusedVariables false

/-- A loop writes a slice's own bytes, block g, which lies from lo on and ahead of hi; nothing else turns. -/
def Wrt (w : World) (A : Option Addr) (n lo hi : Nat) (wr : World) : Prop :=
  (n = 0 ∧ wr = w) ∨ ∃ g off cs, A = some ⟨g, off, none⟩ ∧ lo ≤ g ∧ g < hi ∧ w.grownBy wr (some g) ∧ Has wr g 5 cs ∧ ∀ i, i < n → ∃ y, cs[off + i]? = some (.int .u8 y)
theorem Wrt.start {w0 w : World} {A : Option Addr} {lo : Nat} {l : List UInt8} (h : Row w0 5 lo A (l.map byteV)) (hb : Below w0.heap.size w0 w) : Wrt w A l.length lo w0.heap.size w := by
  rcases Nat.eq_zero_or_pos l.length with h0 | h0
  · exact .inl ⟨h0, rfl⟩
  · obtain ⟨g, off, cs, hA, hl, hg, hc⟩ := h (by simpa using h0)
    refine .inr ⟨g, off, cs, hA, hl, hg.lt, only_refl w g, hg.below hb hg.lt, fun i hi => ?_⟩
    exact ⟨_, hc i (byteV l[i]) (by simp [hi])⟩
theorem Wrt.step {w wr : World} {A : Option Addr} {n lo hi i : Nat} (h : Wrt w A n lo hi wr) (hin : i < n) :
    ∃ g off y, A = some ⟨g, off, none⟩ ∧ wr.cell? ⟨g, off + i, none⟩ = some (.int .u8 y) ∧ wr.frozen? ⟨g, off + i, none⟩ = false ∧ ∀ v, Wrt w A n lo hi (wr.setCell ⟨g, off + i, none⟩ (.int .u8 v)) := by
  rcases h with ⟨h0, _⟩ | ⟨g, off, cs, hA, hl, hh, hg, hH, hc⟩
  · omega
  · obtain ⟨y, hy⟩ := hc i hin
    refine ⟨g, off, y, hA, by rw [hH.cell]; exact hy, hH.free _, fun v => .inr ⟨g, off, _, hA, hl, hh, only_store hg _ _, hH.store _ _, fun j hj => ?_⟩⟩
    obtain ⟨y', hy'⟩ := hc j hj
    by_cases hji : off + i = off + j
    · rw [← hji]
      have hlt : off + i < cs.size := (Array.getElem?_eq_some_iff.1 hy).1
      exact ⟨v, by rw [Array.getElem?_setIfInBounds_self_of_lt hlt]⟩
    · exact ⟨y', by rw [Array.getElem?_setIfInBounds_ne hji]; exact hy'⟩
theorem Wrt.below {w wr : World} {A : Option Addr} {n lo hi B : Nat} (h : Wrt w A n lo hi wr) (hB : B ≤ lo) (hs : B ≤ w.heap.size) : Below B w wr := by
  rcases h with ⟨_, rfl⟩ | ⟨g, off, cs, hA, hl, hh, hg, _⟩
  · exact Below.refl _ _
  · exact below_only hg (by omega) hs
theorem Wrt.tk {w wr : World} {A : Option Addr} {n lo hi base P : Nat} {l : List UInt8} {er : Int} (h : Wrt w A n lo hi wr) (hT : Tk w base P l er) (hb : hi ≤ base) : Tk wr base P l er := by
  rcases h with ⟨_, rfl⟩ | ⟨g, off, cs, hA, hl, hh, hg, _⟩
  · exact hT
  · exact hT.away hg (by omega)
theorem Wrt.row {w wr : World} {A A' : Option Addr} {n lo hi lo' : Nat} {t : TypeId} {xs : List Value} (h : Wrt w A n lo hi wr) (hT : Row w t lo' A' xs) (hb : hi ≤ lo') : Row wr t lo' A' xs := by
  rcases h with ⟨_, rfl⟩ | ⟨g, off, cs, hA, hl, hh, hg, _⟩
  · exact hT
  · exact hT.away (by omega) hg
theorem Below.tk {w w' : World} {base P : Nat} {l : List UInt8} {er : Int} (hb : Below w.heap.size w w') (h : Tk w base P l er) : Tk w' base P l er := h.below hb

/-- Text of a short text. -/
def Short (W : Nat) (s : ByteArray) (w : World) (e : Ending) (w' : World) : Prop :=
  ∃ A c, e = .returned (.slice A (s.size + 1) c) ∧ s.size + 1 ≤ c ∧ Row w' 5 W A ((UInt8.ofNat s.size :: s.data.toList).map byteV) ∧ Below W w w'
theorem Text_short (s : ByteArray) (w : World) (hs : s.size ≤ 255) : Calls Try.prog 11 #[.string s] w (Short w.heap.size s w) := by
  have e : textB s.data.toList = UInt8.ofNat s.size :: s.data.toList := by
    have hsz : s.size = s.data.toList.length := rfl
    unfold textB
    rw [List.take_of_length_le (by omega), ← hsz]
  have h := Text_any s w (by omega)
  rw [e] at h
  exact h.mono fun _ _ ⟨A, c, he, h1, _, h3, h4⟩ => ⟨A, c, he, h1, h3, h4⟩

set_option maxRecDepth 100000 in
set_option maxHeartbeats 8000000 in
theorem walkOwn (A : Option Addr) (n c : Nat) (l : List UInt8) (s : ByteArray) (w : World) (hb : Arg w A n c l) (hs : s.size ≤ maxLen) :
    Calls Try.prog 7 #[.slice A n c, .string s] w fun e w' => e = .returned (.bool true) ∧ Below w.heap.size w w' := by
  unfold maxLen at hs
  by_cases hg : n ≤ 2000 ∧ s.size ≤ 255
  · obtain ⟨h1, h2⟩ := hg
    have HA := Lib.hid hb
    clear hb
    have hn : l.length ≤ 2000 := by rw [← HA.out.len]; exact h1
    have e1 : decide (2000 < (n : Int)) = false := by simp; omega
    have e2 : decide (255 < (s.size : Int)) = false := by simp; omega
    obtain ⟨i0, hi, hz0, hz1, hz2⟩ := info_parts u8info
    go_enter Try.func7, Try.ntmps7
    go_wp2_with (first
      | (go_at_call 8; refine (awake_any _).mono ?_; rintro e w0 ⟨rfl, h0⟩; have B0 := Lib.hid h0; have hv := run_string_of (P := Try.prog) w0 24 9 5 Try.underlying24 Try.underlying5 Try.underlying9 (cap := c) HA.out.len (HA.out.below h0).reads; clear h0)
      | (at_builtin; refine wpList_append_bytes rfl _ _ 24 rfl w0.heap.size 5 i0 Try.underlying24 hi hz0 hz1 hz2 _ 0 [] rfl (World.ownsRow_nil _ _ _ _) A n c l rfl HA.out.len HA.out.none_ (HA.out.below B0.out).reads (by omega) (Nat.le_refl _) ?_; intro v1 w1 h3 h4; rw [Nat.zero_add, List.nil_append, HA.out.len] at h3; obtain ⟨Ac, cc, rfl, g1, g2⟩ := own_slice h3; have RC := Lib.hid (Row.of_own h3); have G1 := Lib.hid ((Below.refl w0.heap.size w0).grown h4 (Nat.le_refl _) (fun k e => by cases e)); clear h3 h4)
      | (go_at_call 13; refine (Take_any Ac cc l w2 (by omega) (RC.out.below B2.out).reads).mono ?_; rintro e w3 ⟨Pu, rfl, h3, h4⟩; have U3 := Lib.hid h3; have B3 := Lib.hid h4; clear h3 h4)
      | (go_at_call 13; refine (Take_any Ac cc l w1 (by omega) RC.out.reads).mono ?_; rintro e w2 ⟨Pt, rfl, h3, h4⟩; have T2 := Lib.hid h3; have B2 := Lib.hid h4; clear h3 h4)
      | (go_at_call 18; have HK := tRest_any w2.heap.size Pu l 0 w3 U3.out (by omega); rw [show stS l 0 l.length = (l, [], 0) by simp [stS]] at HK; refine HK.mono ?_; clear HK; rintro e w4 ⟨⟨Ax, cx, rfl, _, _, h5⟩, h3, h4⟩; have RX := Lib.hid h5; have B24 := Lib.hid (B3.out.trans (below_only h4 h3.base_le B3.out.size)); have B34 := Lib.hid (below_only h4 h3.base_le B3.out.size); clear h3 h4 h5))
    -- w4: c's bytes, the first Taker, and the row x
    have BC14 : Hid (Below w1.heap.size w1 w4) := B2.out.trans (B24.out.mono B2.out.size)
    go_loopw [11] (fun i wr => ∃ k : Nat, k ≤ l.length ∧ i = .int .i64 k ∧ Wrt w4 Ax l.length w3.heap.size w4.heap.size wr) (fun i _ => l.length - (intOf i).toNat)
    case atStart => exact ⟨0, Nat.zero_le _, rfl, Wrt.start RX.out (Below.refl _ _)⟩
    case round =>
      obtain ⟨k, hk, rfl, hW⟩ := hrel
      have HW := Lib.hid hW
      clear hW
      by_cases hlt : k < l.length
      · obtain ⟨g, off, y, hA, hc, hf, hn2⟩ := HW.out.step hlt
        have HN := Lib.hid hn2
        subst hA
        clear hn2
        go_wp2
        go_roundw
        case rel => exact ⟨k + 1, by omega, by go_num, HN.out _⟩
        case measure => simp [intOf]; omega
      · obtain ⟨w5, hw5⟩ : ∃ w5 : World, w5 = wr := ⟨_, rfl⟩
        subst hw5
        have B45 := Lib.hid (HW.out.below (B := w3.heap.size) (Nat.le_refl _) B34.out.size)
        have B15 := Lib.hid (BC14.out.trans (B45.out.mono (Nat.le_trans B2.out.size B3.out.size)))
        have T5 := Lib.hid (T2.out.below (B24.out.trans (B45.out.mono B3.out.size)))
        have hv5 := str_row (n := l.length) (c := cc) rfl (RC.out.below B15.out)
        go_wp2
        clear hv5
        go_loopw [12] (fun i wr => ∃ k : Nat, k ≤ l.length ∧ i = .int .i64 k ∧ Wrt w5 Ac l.length w0.heap.size w1.heap.size wr) (fun i _ => l.length - (intOf i).toNat)
        case atStart => exact ⟨0, Nat.zero_le _, rfl, Wrt.start RC.out B15.out⟩
        case round =>
          obtain ⟨k2, hk2, rfl, hW2⟩ := hrel
          have HW2 := Lib.hid hW2
          clear hW2
          by_cases hlt2 : k2 < l.length
          · obtain ⟨g, off, y, hA, hc, hf, hn2⟩ := HW2.out.step hlt2
            have HN := Lib.hid hn2
            subst hA
            clear hn2
            go_wp2
            go_roundw
            case rel => exact ⟨k2 + 1, by omega, by go_num, HN.out _⟩
            case measure => simp [intOf]; omega
          · obtain ⟨w6, hw6⟩ : ∃ w6 : World, w6 = wr := ⟨_, rfl⟩
            subst hw6
            have L01 : Hid (w0.heap.size ≤ w5.heap.size) := Nat.le_trans G1.out.size B15.out.size
            have T6 := Lib.hid (HW2.out.tk T5.out (Nat.le_refl _))
            have B06 := Lib.hid (((G1.out.trans (B15.out.mono G1.out.size)).trans (HW2.out.below (B := w0.heap.size) (Nat.le_refl _) L01.out)))
            go_wp2_with (first
              | (go_at_call 11; refine (Text_short s w7 (by omega)).mono ?_; rintro e w8 ⟨Az, cz, rfl, hz9, h3, h4⟩; have RZ := Lib.hid h3; have B78 := Lib.hid h4; clear h3 h4)
              | (go_at_call 11; refine (Text_short s w6 (by omega)).mono ?_; rintro e w7 ⟨Ay, cy, rfl, _, h3, h4⟩; have RY := Lib.hid h3; have B67 := Lib.hid h4; clear h3 h4))
            go_loopw [15] (fun i wr => ∃ k : Nat, k ≤ (s.size + 1) ∧ i = .int .i64 k ∧ Wrt w8 Ay (s.size + 1) w6.heap.size w7.heap.size wr) (fun i _ => (s.size + 1) - (intOf i).toNat)
            case atStart => exact ⟨0, Nat.zero_le _, rfl, Wrt.start (l := UInt8.ofNat s.size :: s.data.toList) RY.out B78.out⟩
            case round =>
              obtain ⟨k3, hk3, rfl, hW3⟩ := hrel
              have HW3 := Lib.hid hW3
              clear hW3
              by_cases hlt3 : k3 < (s.size + 1)
              · obtain ⟨g, off, y, hA, hc, hf, hn2⟩ := HW3.out.step hlt3
                have HN := Lib.hid hn2
                subst hA
                clear hn2
                go_wp2
                go_roundw
                case rel => exact ⟨k3 + 1, by omega, by go_num, HN.out _⟩
                case measure => simp [intOf]; omega
              · obtain ⟨w9, hw9⟩ : ∃ w9 : World, w9 = wr := ⟨_, rfl⟩
                subst hw9
                have B69 := Lib.hid ((B67.out.trans (B78.out.mono B67.out.size)).trans (HW3.out.below (B := w6.heap.size) (Nat.le_refl _) (Nat.le_trans B67.out.size B78.out.size)))
                have T9 := Lib.hid (T6.out.below B69.out)
                have RZ9 := Lib.hid (HW3.out.row RZ.out (Nat.le_refl _))
                have HL : Hid (s.size = s.data.toList.length) := rfl
                obtain ⟨csP, hP⟩ := Tk.has T9.out
                have HP := Lib.hid hP
                clear hP
                by_cases hc1 : cz = 1
                · have HZ : Hid (∀ wx, Row wx 5 w7.heap.size Az ((UInt8.ofNat s.size :: s.data.toList).map byteV) → (convert 24 9 (.slice Az 0 0)).run Try.prog wx = .ok (.string s) wx) := fun wx hx => by
                    have h := hx.drop (k := 1) (cap := cz) (by simp; have := HL.out; omega)
                    rw [if_pos hc1] at h
                    exact str_row (l := s.data.toList) (n := 0) (c := 0) (by have := HL.out; omega) h
                  subst hc1
                  go_wp2_with (first
                    | (go_at_call 18; have HK := tRest_any w1.heap.size Pt l 0 w9 T9.out (by omega); rw [show stS l 0 l.length = (l, [], 0) by simp [stS]] at HK; refine HK.mono ?_; clear HK; rintro e w10 ⟨⟨Ar, cr, rfl, _, _, h5⟩, h3, h4⟩; have hv10 := str_row (n := l.length) (c := cr) rfl h5; have hz10 := HZ.out w10 (RZ9.out.grown HP.out (by decide) h4); have T10 := Lib.hid h3; have G9 := Lib.hid h4; clear h3 h4 h5)
                    | (go_at_call 21; refine (tDone_any T10.out).mono ?_; rintro e w' ⟨rfl, rfl⟩))
                  go_ret
                  exact ⟨rfl, (B0.out.trans (((B06.out.trans (B69.out.mono B06.out.size)).trans (below_only G9.out (Nat.le_trans G1.out.size T9.out.base_le) (Nat.le_trans B06.out.size B69.out.size))).mono B0.out.size))⟩
                · have HZ : Hid (∀ wx, Row wx 5 w7.heap.size Az ((UInt8.ofNat s.size :: s.data.toList).map byteV) → (convert 24 9 (.slice (Az.map fun x => ⟨x.block, x.off + 1, none⟩) s.size (cz - 1))).run Try.prog wx = .ok (.string s) wx) := fun wx hx => by
                    have h := hx.drop (k := 1) (cap := cz) (by simp; have := HL.out; omega)
                    rw [if_neg hc1, show (fun x : Addr => x.add 1) = (fun x => ⟨x.block, x.off + 1, none⟩) from rfl] at h
                    exact str_row (l := s.data.toList) (n := s.size) (c := cz - 1) rfl h
                  go_wp2_with (first
                    | (go_at_call 18; have HK := tRest_any w1.heap.size Pt l 0 w9 T9.out (by omega); rw [show stS l 0 l.length = (l, [], 0) by simp [stS]] at HK; refine HK.mono ?_; clear HK; rintro e w10 ⟨⟨Ar, cr, rfl, _, _, h5⟩, h3, h4⟩; have hv10 := str_row (n := l.length) (c := cr) rfl h5; have hz10 := HZ.out w10 (RZ9.out.grown HP.out (by decide) h4); have T10 := Lib.hid h3; have G9 := Lib.hid h4; clear h3 h4 h5)
                    | (go_at_call 21; refine (tDone_any T10.out).mono ?_; rintro e w' ⟨rfl, rfl⟩))
                  go_ret
                  exact ⟨rfl, (B0.out.trans (((B06.out.trans (B69.out.mono B06.out.size)).trans (below_only G9.out (Nat.le_trans G1.out.size T9.out.base_le) (Nat.le_trans B06.out.size B69.out.size))).mono B0.out.size))⟩
  · clear hb
    by_cases h1 : n ≤ 2000
    · have e1 : decide (2000 < (n : Int)) = false := by simp; omega
      have e2 : decide (255 < (s.size : Int)) = true := by simp; omega
      go_enter Try.func7, Try.ntmps7
      go_wp2_with (go_at_call 8; refine (awake_any _).mono ?_; rintro e w0 ⟨rfl, h0⟩; have B0 := Lib.hid h0; clear h0)
      go_ret
      exact ⟨rfl, B0.out⟩
    · have e1 : decide (2000 < (n : Int)) = true := by simp; omega
      go_enter Try.func7, Try.ntmps7
      go_wp2_with (go_at_call 8; refine (awake_any _).mono ?_; rintro e w0 ⟨rfl, h0⟩; have B0 := Lib.hid h0; clear h0)
      go_ret
      exact ⟨rfl, B0.out⟩

end Go.Proofs.Ytcobakgiahkeaaa
