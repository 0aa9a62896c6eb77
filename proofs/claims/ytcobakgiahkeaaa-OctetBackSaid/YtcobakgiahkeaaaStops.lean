/- The walk of the law OctetStops. -/
import Derived.Test.YtcobakgiahkeaaaOca
namespace Go.Proofs.Ytcobakgiahkeaaa
open Go.RowKit
set_option linter.unusedVariables false

/-- A slice of steps that came in: pairs of integers. -/
structure Steps (w : World) (A : Option Addr) (n : Nat) (ks : List (Int × Int)) : Prop where
  len : n = ks.length
  cells : 0 < n → ∃ b off, A = some ⟨b, off, none⟩ ∧ b < w.heap.size ∧ ∀ i k s, ks[i]? = some (k, s) → w.cell? ⟨b, off + i * 2, none⟩ = some (.int .i64 k) ∧ w.cell? ⟨b, off + i * 2 + 1, none⟩ = some (.int .i64 s)
theorem Steps.below {w w' : World} {A : Option Addr} {n : Nat} {ks : List (Int × Int)} (h : Steps w A n ks) (hb : Below w.heap.size w w') : Steps w' A n ks :=
  ⟨h.len, fun hn => by
    obtain ⟨b, off, hA, hlt, hc⟩ := h.cells hn
    exact ⟨b, off, hA, Nat.lt_of_lt_of_le hlt hb.size, fun i k s hi => ⟨(hb.cell (p := ⟨b, off + i * 2, none⟩) hlt).trans (hc i k s hi).1, (hb.cell (p := ⟨b, off + i * 2 + 1, none⟩) hlt).trans (hc i k s hi).2⟩⟩⟩

theorem stN_err (l : List UInt8) (er size : Int) (h : er ≠ 0) : stN l er size = (0, l, er) := by unfold stN; rw [if_pos h]
theorem stS_err (l : List UInt8) (er : Int) (n : Nat) (h : er ≠ 0) : stS l er n = ([], l, er) := by unfold stS; rw [if_pos h]
theorem stT_err (l : List UInt8) (er : Int) (h : er ≠ 0) : stT l er = ([], l, er) := by
  unfold stT
  rw [stN_err l er 1 h]
  exact stS_err l er 0 h
theorem stN_ok (l : List UInt8) (size : Int) : ((stN l 0 size).2.2 = 0 ∨ (((stN l 0 size).2.2 = 1 ∨ (stN l 0 size).2.2 = 10) ∧ (stN l 0 size).1 = 0)) ∧ (stN l 0 size).2.1.length ≤ l.length := by
  unfold stN
  rw [if_neg (by simp)]
  split
  · simp
  · split
    · simp
    · simp
theorem stS_ok (l : List UInt8) (n : Nat) : ((stS l 0 n).2.2 = 0 ∨ (((stS l 0 n).2.2 = 1 ∨ (stS l 0 n).2.2 = 10) ∧ (stS l 0 n).1 = [])) ∧ (stS l 0 n).2.1.length ≤ l.length := by
  unfold stS
  rw [if_neg (by simp)]
  split
  · simp
  · simp
theorem stT_ok (l : List UInt8) : ((stT l 0).2.2 = 0 ∨ (((stT l 0).2.2 = 1 ∨ (stT l 0).2.2 = 10) ∧ (stT l 0).1 = [])) ∧ (stT l 0).2.1.length ≤ l.length := by
  unfold stT
  have h := stN_ok l 1
  by_cases h0 : (stN l 0 1).2.2 = 0
  · rw [h0]
    have h2 := stS_ok (stN l 0 1).2.1 (stN l 0 1).1
    exact ⟨h2.1, Nat.le_trans h2.2 h.2⟩
  · rw [stS_err _ _ _ h0]
    rcases h.1 with h1 | h1
    · exact absurd h1 h0
    · exact ⟨.inr ⟨h1.1, rfl⟩, h.2⟩

/-- What the round is told: how far, what is left, and the error. -/
def StopsRel (w : World) (n base P : Nat) (e i : Value) (wr : World) : Prop :=
  ∃ (k : Nat) (r : List UInt8) (er : Int), k ≤ n ∧ i = .int .i64 k ∧ e = .int .i64 er ∧ (er = 0 ∨ er = 1 ∨ er = 10) ∧ r.length ≤ 3000 ∧ Tk wr base P r er ∧ Below w.heap.size w wr

set_option maxRecDepth 100000 in
set_option maxHeartbeats 2000000 in
theorem walkStops (A A2 : Option Addr) (n c m c2 : Nat) (l : List UInt8) (ks : List (Int × Int)) (w : World) (hb : Arg w A n c l) (hl : Steps w A2 m ks) :
    Calls Try.prog 6 #[.slice A n c, .slice A2 m c2] w fun e w' => e = .returned (.bool true) ∧ Below w.heap.size w w' := by
  by_cases hg : n ≤ 3000 ∧ m ≤ 60
  · obtain ⟨h1, h2⟩ := hg
    have HA := Lib.hid hb
    have HS := Lib.hid hl
    clear hb hl
    have hn : l.length ≤ 3000 := by rw [← HA.out.len]; exact h1
    have e1 : decide (3000 < (n : Int)) = false := by simp; omega
    have e2 : decide (60 < (m : Int)) = false := by simp; omega
    go_enter Try.func6, Try.ntmps6
    go_wp2_with (first
      | (go_at_call 8; refine (awake_any _).mono ?_; rintro e w0 ⟨rfl, h0⟩; have B0 := Lib.hid h0; clear h0)
      | (go_at_call 13; have HK := Take_any A c l _ (by omega) (HA.out.below B0.out).reads; rw [← HA.out.len] at HK; refine HK.mono ?_; clear HK; rintro e w1 ⟨P, rfl, h3, h4⟩; have T1 := Lib.hid h3; have B1 := Lib.hid (below_step B0.out h4); clear h3 h4)
      | (go_at_call 20; refine (tErr_any T1.out).mono ?_; rintro e w' ⟨rfl, rfl⟩))
    have LE : Hid (w.heap.size ≤ w0.heap.size) := B0.out.size
    go_loopw [7, 8] (fun e i wr => StopsRel w m w0.heap.size P e i wr) (fun _ i _ => m - (intOf i).toNat)
    case atStart => exact ⟨0, l, 0, Nat.zero_le _, rfl, rfl, .inl rfl, hn, T1.out, B1.out⟩
    case round =>
      obtain ⟨k, r, er, hk, rfl, rfl, her, hr, hT, hB⟩ := hrel
      have TR := Lib.hid hT
      have BR := Lib.hid hB
      have BP : Hid (w.heap.size ≤ P) := Nat.le_trans LE.out hT.base_le
      clear hT hB
      by_cases hlt : k < m
      · obtain ⟨b, off, hA2, hbl, hcs⟩ := HS.out.cells (by omega)
        obtain ⟨⟨kd, sz⟩, hks⟩ : ∃ q, ks[k]? = some q := ⟨_, List.getElem?_eq_getElem (by have := HS.out.len; omega)⟩
        have hck : wr.cell? ⟨b, off + k * 2, none⟩ = some (.int .i64 kd) := (BR.out.cell (p := ⟨b, off + k * 2, none⟩) hbl).trans (hcs k kd sz hks).1
        have hcz : wr.cell? ⟨b, off + k * 2 + 1, none⟩ = some (.int .i64 sz) := (BR.out.cell (p := ⟨b, off + k * 2 + 1, none⟩) hbl).trans (hcs k kd sz hks).2
        subst hA2
        clear hcs hks
        by_cases h0 : er = 0
        · subst h0
          clear her
          by_cases k0 : kd = 0
          · subst k0
            have hok := stN_ok r sz
            obtain ⟨x, r1, er1, hst⟩ : ∃ x r1 er1, stN r 0 sz = (x, r1, er1) := ⟨_, _, _, rfl⟩
            have HN := Lib.hid (tNum_any w0.heap.size P r 0 sz wr TR.out)
            rw [hst] at hok HN
            simp only at hok HN
            clear hst
            obtain ⟨ho, hol⟩ := hok
            rcases ho with h9 | ⟨h9, h8⟩
            · subst h9
              go_wp2_with (first
                    | (go_at_call 21; refine (tDone_any TR.out).mono ?_; rintro e w' ⟨rfl, rfl⟩)
                    | (go_at_call 14; refine HN.out.mono ?_; rintro e w2 ⟨rfl, h3, h4⟩; have T2 := Lib.hid h3; have B2 := Lib.hid (BR.out.trans (below_only h4 BP.out BR.out.size)); clear h3 h4)
                    | (go_at_call 20; refine (tErr_any T2.out).mono ?_; rintro e w' ⟨rfl, rfl⟩)
                    | (go_at_call 21; refine (tDone_any T2.out).mono ?_; rintro e w' ⟨rfl, rfl⟩))
              go_roundw
              case rel => exact ⟨k + 1, r1, 0, by omega, by go_num, rfl, .inl rfl, by omega, T2.out, B2.out⟩
              case measure => simp [intOf]; omega
            · subst h8
              have HE : Hid (er1 = 0 ∨ er1 = 1 ∨ er1 = 10) := .inr h9
              have q1 : (er1 != 0) = true := by simp; omega
              clear h9
              go_wp2_with (first
                    | (go_at_call 21; refine (tDone_any TR.out).mono ?_; rintro e w' ⟨rfl, rfl⟩)
                    | (go_at_call 14; refine HN.out.mono ?_; rintro e w2 ⟨rfl, h3, h4⟩; have T2 := Lib.hid h3; have B2 := Lib.hid (BR.out.trans (below_only h4 BP.out BR.out.size)); clear h3 h4)
                    | (go_at_call 20; refine (tErr_any T2.out).mono ?_; rintro e w' ⟨rfl, rfl⟩)
                    | (go_at_call 21; refine (tDone_any T2.out).mono ?_; rintro e w' ⟨rfl, rfl⟩))
              go_roundw
              case rel => exact ⟨k + 1, r1, er1, by omega, by go_num, rfl, HE.out, by omega, T2.out, B2.out⟩
              case measure => simp [intOf]; omega
          · by_cases k1 : kd = 1
            · subst k1
              have hok := stT_ok r
              obtain ⟨x, r1, er1, hst⟩ : ∃ x r1 er1, stT r 0 = (x, r1, er1) := ⟨_, _, _, rfl⟩
              have HN := Lib.hid (tText_any w0.heap.size P r 0 wr TR.out)
              rw [hst] at hok HN
              simp only at hok HN
              clear hst
              obtain ⟨ho, hol⟩ := hok
              rcases ho with h9 | ⟨h9, h8⟩
              · subst h9
                go_wp2_with (first
                      | (go_at_call 21; refine (tDone_any TR.out).mono ?_; rintro e w' ⟨rfl, rfl⟩)
                      | (go_at_call 16; refine HN.out.mono ?_; rintro e w2 ⟨rfl, h3, h4⟩; have T2 := Lib.hid h3; have B2 := Lib.hid (BR.out.trans (below_only h4 BP.out BR.out.size)); clear h3 h4)
                      | (go_at_call 20; refine (tErr_any T2.out).mono ?_; rintro e w' ⟨rfl, rfl⟩)
                      | (go_at_call 21; refine (tDone_any T2.out).mono ?_; rintro e w' ⟨rfl, rfl⟩))
                go_roundw
                case rel => exact ⟨k + 1, r1, 0, by omega, by go_num, rfl, .inl rfl, by omega, T2.out, B2.out⟩
                case measure => simp [intOf]; omega
              · subst h8
                have HE : Hid (er1 = 0 ∨ er1 = 1 ∨ er1 = 10) := .inr h9
                have q1 : (er1 != 0) = true := by simp; omega
                clear h9
                go_wp2_with (first
                      | (go_at_call 21; refine (tDone_any TR.out).mono ?_; rintro e w' ⟨rfl, rfl⟩)
                      | (go_at_call 16; refine HN.out.mono ?_; rintro e w2 ⟨rfl, h3, h4⟩; have T2 := Lib.hid h3; have B2 := Lib.hid (BR.out.trans (below_only h4 BP.out BR.out.size)); clear h3 h4)
                      | (go_at_call 20; refine (tErr_any T2.out).mono ?_; rintro e w' ⟨rfl, rfl⟩)
                      | (go_at_call 21; refine (tDone_any T2.out).mono ?_; rintro e w' ⟨rfl, rfl⟩))
                go_roundw
                case rel => exact ⟨k + 1, r1, er1, by omega, by go_num, rfl, HE.out, by omega, T2.out, B2.out⟩
                case measure => simp [intOf]; omega
            · have k0' : (kd == 0) = false := by simpa using k0
              have k1' : (kd == 1) = false := by simpa using k1
              clear k0 k1
              have HN := Lib.hid (tRest_any w0.heap.size P r 0 wr TR.out (by omega))
              rw [show stS r 0 r.length = (r, [], 0) by simp [stS]] at HN
              simp only at HN
              go_wp2_with (first
                    | (go_at_call 21; refine (tDone_any TR.out).mono ?_; rintro e w' ⟨rfl, rfl⟩)
                    | (go_at_call 18; refine HN.out.mono ?_; rintro e w2 ⟨⟨A9, c9, rfl, _, _, h9⟩, h3, h4⟩; have hv := str_row (n := r.length) (c := c9) rfl h9; have T2 := Lib.hid h3; have B2 := Lib.hid (BR.out.trans (below_only h4 BP.out BR.out.size)); clear h3 h4 h9)
                    | (go_at_call 20; refine (tErr_any T2.out).mono ?_; rintro e w' ⟨rfl, rfl⟩)
                    | (go_at_call 21; refine (tDone_any T2.out).mono ?_; rintro e w' ⟨rfl, rfl⟩))
              go_roundw
              case rel => exact ⟨k + 1, [], 0, by omega, by go_num, rfl, .inl rfl, by simp, T2.out, B2.out⟩
              case measure => simp [intOf]; omega
        · have q1 : (er != 0) = true := by simpa using h0
          have q2 : (er == 0) = false := by simpa using h0
          have HE := Lib.hid her
          by_cases k0 : kd = 0
          · subst k0
            have HN := Lib.hid (tNum_any w0.heap.size P r er sz wr TR.out)
            rw [stN_err _ _ _ h0] at HN
            simp only at HN
            clear her h0
            go_wp2_with (first
                  | (go_at_call 21; refine (tDone_any TR.out).mono ?_; rintro e w' ⟨rfl, rfl⟩)
                  | (go_at_call 14; refine HN.out.mono ?_; rintro e w2 ⟨rfl, h3, h4⟩; have T2 := Lib.hid h3; have B2 := Lib.hid (BR.out.trans (below_only h4 BP.out BR.out.size)); clear h3 h4)
                  | (go_at_call 20; refine (tErr_any T2.out).mono ?_; rintro e w' ⟨rfl, rfl⟩)
                  | (go_at_call 21; refine (tDone_any T2.out).mono ?_; rintro e w' ⟨rfl, rfl⟩))
            go_roundw
            case rel => exact ⟨k + 1, r, er, by omega, by go_num, rfl, HE.out, hr, T2.out, B2.out⟩
            case measure => simp [intOf]; omega
          · by_cases k1 : kd = 1
            · subst k1
              have HN := Lib.hid (tText_any w0.heap.size P r er wr TR.out)
              rw [stT_err _ _ h0] at HN
              simp only at HN
              clear her h0
              go_wp2_with (first
                    | (go_at_call 21; refine (tDone_any TR.out).mono ?_; rintro e w' ⟨rfl, rfl⟩)
                    | (go_at_call 16; refine HN.out.mono ?_; rintro e w2 ⟨rfl, h3, h4⟩; have T2 := Lib.hid h3; have B2 := Lib.hid (BR.out.trans (below_only h4 BP.out BR.out.size)); clear h3 h4)
                    | (go_at_call 20; refine (tErr_any T2.out).mono ?_; rintro e w' ⟨rfl, rfl⟩)
                    | (go_at_call 21; refine (tDone_any T2.out).mono ?_; rintro e w' ⟨rfl, rfl⟩))
              go_roundw
              case rel => exact ⟨k + 1, r, er, by omega, by go_num, rfl, HE.out, hr, T2.out, B2.out⟩
              case measure => simp [intOf]; omega
            · have k0' : (kd == 0) = false := by simpa using k0
              have k1' : (kd == 1) = false := by simpa using k1
              clear k0 k1
              have HN := Lib.hid (tRest_any w0.heap.size P r er wr TR.out (by omega))
              rw [stS_err _ _ _ h0] at HN
              simp only at HN
              clear her h0
              go_wp2_with (first
                    | (go_at_call 21; refine (tDone_any TR.out).mono ?_; rintro e w' ⟨rfl, rfl⟩)
                    | (go_at_call 18; refine HN.out.mono ?_; rintro e w2 ⟨⟨A9, c9, rfl, _, _, h9⟩, h3, h4⟩; have hv := str_row (n := 0) (c := c9) rfl h9; have T2 := Lib.hid h3; have B2 := Lib.hid (BR.out.trans (below_only h4 BP.out BR.out.size)); clear h3 h4 h9)
                    | (go_at_call 20; refine (tErr_any T2.out).mono ?_; rintro e w' ⟨rfl, rfl⟩)
                    | (go_at_call 21; refine (tDone_any T2.out).mono ?_; rintro e w' ⟨rfl, rfl⟩))
              go_roundw
              case rel => exact ⟨k + 1, r, er, by omega, by go_num, rfl, HE.out, hr, T2.out, B2.out⟩
              case measure => simp [intOf]; omega
      · rcases her with rfl | rfl | rfl
        all_goals
          go_wp2
          go_ret
          exact ⟨rfl, BR.out⟩
  · clear hb hl
    by_cases h1 : n ≤ 3000
    · have e1 : decide (3000 < (n : Int)) = false := by simp; omega
      have e2 : decide (60 < (m : Int)) = true := by simp; omega
      go_enter Try.func6, Try.ntmps6
      go_wp2_with (go_at_call 8; refine (awake_any _).mono ?_; rintro e w0 ⟨rfl, h0⟩; have B0 := Lib.hid h0; clear h0)
      go_ret
      exact ⟨rfl, B0.out⟩
    · have e1 : decide (3000 < (n : Int)) = true := by simp; omega
      go_enter Try.func6, Try.ntmps6
      go_wp2_with (go_at_call 8; refine (awake_any _).mono ?_; rintro e w0 ⟨rfl, h0⟩; have B0 := Lib.hid h0; clear h0)
      go_ret
      exact ⟨rfl, B0.out⟩

end Go.Proofs.Ytcobakgiahkeaaa
