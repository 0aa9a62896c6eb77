import Derived.Test.YtlfmmmgdilencaaJSui
import Derived.Test.YtlfmmmgdilencaaJSuj
import Derived.Test.YtlfmmmgdilencaaJ14
import Derived.Sort.LotC
import Derived.Sort.LotD2
/- Of a claim's texts, joined: Sul. No statement but in the last. -/
namespace Go.Proofs.Ytlfmmmgdilencaa
open Go.RowKit Go.Sort
set_option linter.unusedVariables false

theorem swoU : SWO ltU where
  irrefl x := by simp [ltU]
  trans x y z := by simp only [ltU, decide_eq_true_eq]; omega
  ntrans x y z := by simp only [ltU, decide_eq_false_iff_not]; omega
section
variable {g off n : Nat}
theorem insU_any (c a b : Nat) (d : Array Nat) (W0 W : World) (h : SU W0 g off n d W) (hab : a ≤ b) (hb : b ≤ n) :
    Calls Try.prog 22 #[.slice (some ⟨g, off, none⟩) n c, .int .i64 (a : Int), .int .i64 (b : Int)] W fun e w' => e = .returned (.tuple #[]) ∧ SU W0 g off n (insertionSort ltU d a b) w' :=
  (oInsU_any c a b d W h.here hab hb).mono (fun e w' h2 => ⟨h2.1, h.trans h2.2⟩)
theorem heapU_any (c a b : Nat) (d : Array Nat) (W0 W : World) (h : SU W0 g off n d W) (hab : a < b) (hb : b ≤ n) :
    Calls Try.prog 23 #[.slice (some ⟨g, off, none⟩) n c, .int .i64 (a : Int), .int .i64 (b : Int)] W fun e w' => e = .returned (.tuple #[]) ∧ SU W0 g off n (heapSort ltU d a b) w' :=
  (oHeapU_any c a b d W h.here hab hb).mono (fun e w' h2 => ⟨h2.1, h.trans h2.2⟩)
theorem revU_any (c a b : Nat) (d : Array Nat) (W0 W : World) (h : SU W0 g off n d W) (hb0 : 0 < b) (ha : a ≤ n) (hb : b ≤ n) :
    Calls Try.prog 26 #[.slice (some ⟨g, off, none⟩) n c, .int .i64 (a : Int), .int .i64 (b : Int)] W fun e w' => e = .returned (.tuple #[]) ∧ SU W0 g off n (reverseRange d a b) w' :=
  (oRevU_any c a b d W h.here hb0 ha hb).mono (fun e w' h2 => ⟨h2.1, h.trans h2.2⟩)
end
def pdqUTail (d3 : Array Nat) (a b limit pivot : Nat) (wasBalanced wasPartitioned : Bool) : Array Nat :=
  if a > 0 && !ltU d3[a - 1]! d3[pivot]! then
    match partitionEqual ltU d3 a b pivot with
    | (mid, d4) => if _h : a < mid ∧ mid ≤ b then pdq ltU d4 mid b limit wasBalanced wasPartitioned else d4
  else
    match partition ltU d3 a b pivot with
    | (mid, alreadyPartitioned, d4) =>
      if _h : a ≤ mid ∧ mid < b then
        if mid - a < b - mid then
          pdq ltU (pdq ltU d4 a mid limit true true) (mid + 1) b limit (decide (mid - a ≥ (b - a) / 8)) alreadyPartitioned
        else
          pdq ltU (pdq ltU d4 (mid + 1) b limit true true) a mid limit (decide (b - mid ≥ (b - a) / 8)) alreadyPartitioned
      else d4
def pdqUPi (pi : Array Nat × Bool) (a b limit pivot : Nat) (wb wp : Bool) : Array Nat := if pi.2 then pi.1 else pdqUTail pi.1 a b limit pivot wb wp
def pdqUAsk (d2 : Array Nat) (a b limit pivot : Nat) (ask wb wp : Bool) : Array Nat := pdqUPi (if ask then partialInsertionSort ltU d2 a b else (d2, false)) a b limit pivot wb wp
def pdqUC (c : Nat × Hint) (d1 : Array Nat) (a b limit : Nat) (wb wp : Bool) : Array Nat :=
  pdqUAsk (if c.2 = .decreasing then reverseRange d1 a b else d1) a b limit (if c.2 = .decreasing then (b - 1) - (c.1 - a) else c.1) (wb && wp && (if c.2 = .decreasing then Hint.increasing else c.2) = .increasing) wb wp
theorem pdqU_unfold {d : Array Nat} {a b limit : Nat} {wb wp : Bool} (h12 : ¬ b - a ≤ 12) (hl : ¬ limit = 0) :
    pdq ltU d a b limit wb wp = pdqUC (choosePivot ltU (if !wb then breakPatterns d a b else d) a b) (if !wb then breakPatterns d a b else d) a b (if !wb then limit - 1 else limit) wb wp := by
  conv => lhs; rw [pdq.eq_def]
  rw [if_neg h12, if_neg hl]
  rfl
theorem tailU_eq {d3 : Array Nat} {a b lim p : Nat} {wb wp : Bool} (h0 : 0 < a) (hv : ltU d3[a - 1]! d3[p]! = false) (h1 : a < (partitionEqual ltU d3 a b p).1) (h2 : (partitionEqual ltU d3 a b p).1 ≤ b) :
    pdqUTail d3 a b lim p wb wp = pdq ltU (partitionEqual ltU d3 a b p).2 (partitionEqual ltU d3 a b p).1 b lim wb wp := by
  unfold pdqUTail
  rw [if_pos (by simp [h0, hv])]
  obtain ⟨r, hr⟩ : ∃ r, partitionEqual ltU d3 a b p = r := ⟨_, rfl⟩
  rw [hr] at h1 h2
  rw [hr]
  obtain ⟨mid, d4⟩ := r
  dsimp only at h1 h2 ⊢
  rw [dif_pos ⟨h1, h2⟩]
theorem tailU_part {d3 d4 : Array Nat} {a b lim p mid : Nat} {wb wp ap : Bool} (h0 : ¬ 0 < a ∨ ltU d3[a - 1]! d3[p]! = true) (hp : partition ltU d3 a b p = (mid, ap, d4)) (h1 : a ≤ mid) (h2 : mid < b) :
    pdqUTail d3 a b lim p wb wp = if mid - a < b - mid then pdq ltU (pdq ltU d4 a mid lim true true) (mid + 1) b lim (decide (mid - a ≥ (b - a) / 8)) ap
      else pdq ltU (pdq ltU d4 (mid + 1) b lim true true) a mid lim (decide (b - mid ≥ (b - a) / 8)) ap := by
  unfold pdqUTail
  rw [if_neg (by rcases h0 with h0 | h0 <;> simp [h0])]
  simp only [hp]
  rw [dif_pos ⟨h1, h2⟩]
set_option maxRecDepth 100000 in
set_option maxHeartbeats 100000000 in
theorem oPdqU_any {g off n : Nat} (c : Nat) (W0 : World) (hn65 : n < 65536) : ∀ (m a0 b0 lim0 : Nat) (d : Array Nat) (W : World), SU W0 g off n d W → a0 ≤ b0 → b0 - a0 < m → b0 ≤ n → lim0 ≤ 1000 →
    Calls Try.prog 20 #[.slice (some ⟨g, off, none⟩) n c, .int .i64 (a0 : Int), .int .i64 (b0 : Int), .int .i64 (lim0 : Int)] W (fun e w' => e = .returned (.tuple #[]) ∧ SU W0 g off n (pdq ltU d a0 b0 lim0 true true) w') := by
  have hmx : Try.prog.follows .mixedOrders = true := by kernel_rfl
  have HLS := Lib.hid (fun x y w => lessU_any x y w)
  intro m
  induction m with
  | zero => intro a0 b0 lim0 d W _ _ h; omega
  | succ m ih =>
    intro a0 b0 lim0 d W hI hab0 hm hb0 hlim0
    have IH0 := Lib.hid ih
    have H0 := Lib.hid hI
    clear hI ih
    go_enter Try.func20, Try.ntmps20
    go_wp2
    go_loopw [1, 2, 3, 8, 9] (fun va vb vl vw vp wr => ∃ (a b lim : Nat) (wb wp : Bool) (dk : Array Nat), va = .int .i64 (a : Int) ∧ vb = .int .i64 (b : Int) ∧ vl = .int .i64 (lim : Int) ∧ vw = .bool wb ∧ vp = .bool wp ∧ a ≤ b ∧ b ≤ n ∧ b - a ≤ b0 - a0 ∧ SU W0 g off n dk wr ∧ pdq ltU dk a b lim wb wp = pdq ltU d a0 b0 lim0 true true ∧ lim ≤ 1000) (fun va vb _ _ _ _ => (intOf vb - intOf va).toNat)
    case atStart => exact ⟨a0, b0, lim0, true, true, d, rfl, rfl, rfl, rfl, rfl, hab0, hb0, Nat.le_refl _, H0.out, rfl, hlim0⟩
    case round =>
      obtain ⟨a, b, lim, wb, wp, dk, rfl, rfl, rfl, rfl, rfl, hab, hbn, hsub, h1, h4, hlim⟩ := hrel
      have K1 := Lib.hid h1
      have K4 := Lib.hid h4
      clear h1 h4
      obtain ⟨L, hL⟩ : ∃ L, b - a = L := ⟨_, rfl⟩
      have hm1 : (b : Int) - (a : Int) = (L : Int) := by omega
      by_cases h12 : b - a ≤ 12
      · have g12 : (L : Int) ≤ 12 := by omega
        have HE : Hid (insertionSort ltU dk a b = pdq ltU d a0 b0 lim0 true true) := Lib.hid (by rw [← K4.out, pdq.eq_def, if_pos h12])
        have HC := Lib.hid (insU_any c a b dk W0 wr K1.out hab hbn)
        rw [HE.out] at HC
        go_wp2_with (go_at_call 22; (with_reducible refine HC.out.mono ?_); rintro e w8 ⟨rfl, h9⟩; have R1 := Lib.hid h9; clear h9)
        refine bodyPost_ret (results_none rfl _ _ _) rfl ?_
        exact ⟨rfl, R1.out⟩
      · have g12 : ¬ (L : Int) ≤ 12 := by omega
        by_cases hl0 : lim = 0
        · subst hl0
          have HE : Hid (heapSort ltU dk a b = pdq ltU d a0 b0 lim0 true true) := Lib.hid (by rw [← K4.out, pdq.eq_def, if_neg h12, if_pos rfl])
          have HC := Lib.hid (heapU_any c a b dk W0 wr K1.out (by omega) hbn)
          rw [HE.out] at HC
          go_wp2_with (go_at_call 23; (with_reducible refine HC.out.mono ?_); rintro e w8 ⟨rfl, h9⟩; have R1 := Lib.hid h9; clear h9)
          refine bodyPost_ret (results_none rfl _ _ _) rfl ?_
          exact ⟨rfl, R1.out⟩
        · have gl0 : ((lim : Int) == 0) = false := by simp; omega
          have IH : Hid (∀ (a b lim : Nat) (d : Array Nat) (W : World), SU W0 g off n d W → a ≤ b → b - a < b0 - a0 → b ≤ n → lim ≤ 1000 → Calls Try.prog 20 #[.slice (some ⟨g, off, none⟩) n c, .int .i64 (a : Int), .int .i64 (b : Int), .int .i64 (lim : Int)] W (fun e w' => e = .returned (.tuple #[]) ∧ SU W0 g off n (pdq ltU d a b lim true true) w')) := Lib.hid (fun a b lim d W h1 h2 h3 h4 h5 => IH0.out a b lim d W h1 h2 (by omega) h4 h5)
          obtain ⟨q8, hq8⟩ : ∃ q8, L / 8 = q8 := ⟨_, rfl⟩
          have hq1 : (L : Int).tdiv 8 = (q8 : Int) := by rw [Int.tdiv_eq_ediv_of_nonneg (by omega)]; omega
          have hq2 : (L : Int) / 8 = (q8 : Int) := by omega
          have HU := Lib.hid (pdqU_unfold (d := dk) (wb := wb) (wp := wp) h12 hl0)
          cases wb
          case false =>
            obtain ⟨d1, hd1⟩ : ∃ d1, breakPatterns dk a b = d1 := ⟨_, rfl⟩
            obtain ⟨lim1, hlim1⟩ : ∃ l, lim - 1 = l := ⟨_, rfl⟩
            have gl1 : (lim : Int) - 1 = (lim1 : Int) := by omega
            have HU : Hid (pdq ltU dk a b lim false wp = pdqUC (choosePivot ltU d1 a b) d1 a b lim1 false wp) := Lib.hid (by rw [HU.out, ← hd1, ← hlim1]; rfl)
            have HBP := Lib.hid (fun w h => hd1 ▸ oBreakU_any (g := g) (off := off) c a b dk W0 w h (by omega) hbn hn65)
            clear hd1
            have hch := choosePivot_holds ltU d1 a b (by omega)
            have hcp := fun w h => oPivotU_any (g := g) (off := off) c a b d1 W0 w h (by omega) hbn
            obtain ⟨r, hr⟩ : ∃ r, choosePivot ltU d1 a b = r := ⟨_, rfl⟩
            rw [hr] at hch hcp HU
            obtain ⟨p0, hh⟩ := r
            dsimp only at hch hcp
            clear hr
            cases hh
            case unknown =>
              simp only [hintU] at hcp
              have HCP := Lib.hid hcp
              clear hcp
              have hp1 := hch.1
              have hp2 := hch.2
              have HTL : Hid (pdqUTail d1 a b lim1 p0 false wp = pdq ltU d a0 b0 lim0 true true) := Lib.hid (by rw [← K4.out, HU.out]; rfl)
              go_wp2_with (first
                | (go_at_call 24; (with_reducible refine (HBP.out _ K1.out).mono ?_); rintro e w8 ⟨rfl, h9⟩; have B1 := Lib.hid h9; clear h9)
                | (go_at_call 25; (with_reducible refine (HCP.out _ B1.out).mono ?_); rintro e w8 ⟨rfl, h9⟩; have C1 := Lib.hid h9; clear h9))
              have HDS := Lib.hid C1.out.size
              as_aux_lemma =>
                by_cases ha0 : 0 < a
                · have ga0 : (0 : Int) < (a : Int) := by omega
                  obtain ⟨a1, ha1⟩ : ∃ a1, a - 1 = a1 := ⟨_, rfl⟩
                  have haI : (a : Int) - 1 = (a1 : Int) := by omega
                  have hwa : IntKind.i64.wrap (a1 : Int) = (a1 : Int) := by rw [IntKind.wrap_i64]; omega
                  have L1 := Lib.hid C1.out.drew
                  have ca := C1.out.cell a1 (by omega)
                  have cb := C1.out.cell p0 (by omega)
                  obtain ⟨x, hx⟩ : ∃ x, d1[a1]! = x := ⟨_, rfl⟩
                  obtain ⟨y, hy⟩ : ∃ y, d1[p0]! = y := ⟨_, rfl⟩
                  rw [hx] at ca
                  rw [hy] at cb
                  have bx0 : (0 : Int) ≤ (a1 : Int) := by omega
                  have bx1 : (a1 : Int) < (n : Int) := by omega
                  have by0 : (0 : Int) ≤ (p0 : Int) := by omega
                  have by1 : (p0 : Int) < (n : Int) := by omega
                  have hSd : (fun w' : World => w'.cell? ⟨g, off + a1, none⟩ = some (.int .u64 (x : Int)) ∧ w'.cell? ⟨g, off + p0, none⟩ = some (.int .u64 (y : Int))) _ := ⟨ca, cb⟩
                  cases hv : ltU x y
                  · have HL := Lib.hid hv
                    have HV : Hid (ltU d1[a - 1]! d1[p0]! = false) := Lib.hid (by rw [ha1, hx, hy]; exact hv)
                    have HPE := Lib.hid (fun w h => oPartEqU_any (g := g) (off := off) c a b p0 d1 W0 w h hp1 hp2 hbn)
                    have HTE := Lib.hid (fun h1 h2 => tailU_eq (b := b) (lim := lim1) (wb := false) (wp := wp) ha0 HV.out h1 h2)
                    clear hv hx hy ha1
                    generalize partitionEqual ltU d1 a b p0 = r at HPE HTE
                    obtain ⟨mid, d4⟩ := r
                    dsimp only at HPE HTE
                    go_wp2
                    rename_i K hK
                    refine wp_held (fun w' : World => w'.cell? ⟨g, off + a1, none⟩ = some (.int .u64 (x : Int)) ∧ w'.cell? ⟨g, off + p0, none⟩ = some (.int .u64 (y : Int))) K hmx ?_ (fun _ _ h => h)
                    refine wpAnyH_take (i := 0) (v := .int .i64 (a : Int)) (lit rfl) (by kernel_rfl) (by kernel_rfl) (by kernel_rfl) (fun _ _ _ h => h) (Or.inl ⟨by rfl, ?_⟩) hSd ?_
                    · rintro w6 ⟨k1, k2⟩
                      go_simp
                    simp only [Act.put, List.setIfInBounds_toArray, List.set_cons_zero, List.set_cons_succ]
                    refine wpAnyH_take (i := 1) (v := .bool true) (lit rfl) (by kernel_rfl) (by kernel_rfl) (by kernel_rfl) (fun _ _ _ h => h) (Or.inl ⟨by rfl, ?_⟩) hSd ?_
                    · rintro w6 ⟨k1, k2⟩
                      go_simp
                    simp only [Act.put, List.setIfInBounds_toArray, List.set_cons_zero, List.set_cons_succ]
                    refine wpAnyH_take (i := 2) (v := .bool true) (lit rfl) (by kernel_rfl) (by kernel_rfl) (by kernel_rfl) (fun _ _ _ h => h) (Or.inl ⟨by rfl, ?_⟩) hSd ?_
                    · rintro w6 ⟨k1, k2⟩
                      go_simp
                    simp only [Act.put, List.setIfInBounds_toArray, List.set_cons_zero, List.set_cons_succ]
                    refine wpAnyH_take (i := 3) (v := .slice (some ⟨g, off, none⟩) n c) (lit rfl) (by kernel_rfl) (by kernel_rfl) (by kernel_rfl) (fun _ _ _ h => h) (Or.inl ⟨by rfl, ?_⟩) hSd ?_
                    · rintro w6 ⟨k1, k2⟩
                      go_simp
                    simp only [Act.put, List.setIfInBounds_toArray, List.set_cons_zero, List.set_cons_succ]
                    refine wpAnyH_take (i := 4) (v := .int .i64 (a : Int)) (lit rfl) (by kernel_rfl) (by kernel_rfl) (by kernel_rfl) (fun _ _ _ h => h) (Or.inl ⟨by rfl, ?_⟩) hSd ?_
                    · rintro w6 ⟨k1, k2⟩
                      go_simp
                    simp only [Act.put, List.setIfInBounds_toArray, List.set_cons_zero, List.set_cons_succ]
                    refine wpAnyH_take (i := 5) (v := .int .i64 (a1 : Int)) (lit rfl) (by kernel_rfl) (by kernel_rfl) (by kernel_rfl) (fun _ _ _ h => h) (Or.inl ⟨by rfl, ?_⟩) hSd ?_
                    · rintro w6 ⟨k1, k2⟩
                      go_simp
                    simp only [Act.put, List.setIfInBounds_toArray, List.set_cons_zero, List.set_cons_succ]
                    refine wpAnyH_take (i := 6) (v := .pointer (some ⟨g, off + a1, none⟩)) (lit rfl) (by kernel_rfl) (by kernel_rfl) (by kernel_rfl) (fun _ _ _ h => h) (Or.inl ⟨by rfl, ?_⟩) hSd ?_
                    · rintro w6 ⟨k1, k2⟩
                      go_simp
                    simp only [Act.put, List.setIfInBounds_toArray, List.set_cons_zero, List.set_cons_succ]
                    refine wpAnyH_take (i := 7) (v := .int .u64 (x : Int)) (lit rfl) (by kernel_rfl) (by kernel_rfl) (by kernel_rfl) (fun _ _ _ h => h) (Or.inl ⟨by rfl, ?_⟩) hSd ?_
                    · rintro w6 ⟨k1, k2⟩
                      go_simp
                    simp only [Act.put, List.setIfInBounds_toArray, List.set_cons_zero, List.set_cons_succ]
                    refine wpAnyH_take (i := 8) (v := .slice (some ⟨g, off, none⟩) n c) (lit rfl) (by kernel_rfl) (by kernel_rfl) (by kernel_rfl) (fun _ _ _ h => h) (Or.inl ⟨by rfl, ?_⟩) hSd ?_
                    · rintro w6 ⟨k1, k2⟩
                      go_simp
                    simp only [Act.put, List.setIfInBounds_toArray, List.set_cons_zero, List.set_cons_succ]
                    refine wpAnyH_take (i := 9) (v := .int .i64 (p0 : Int)) (lit rfl) (by kernel_rfl) (by kernel_rfl) (by kernel_rfl) (fun _ _ _ h => h) (Or.inl ⟨by rfl, ?_⟩) hSd ?_
                    · rintro w6 ⟨k1, k2⟩
                      go_simp
                    simp only [Act.put, List.setIfInBounds_toArray, List.set_cons_zero, List.set_cons_succ]
                    refine wpAnyH_take (i := 10) (v := .pointer (some ⟨g, off + p0, none⟩)) (lit rfl) (by kernel_rfl) (by kernel_rfl) (by kernel_rfl) (fun _ _ _ h => h) (Or.inl ⟨by rfl, ?_⟩) hSd ?_
                    · rintro w6 ⟨k1, k2⟩
                      go_simp
                    simp only [Act.put, List.setIfInBounds_toArray, List.set_cons_zero, List.set_cons_succ]
                    refine wpAnyH_take (i := 11) (v := .int .u64 (y : Int)) (lit rfl) (by kernel_rfl) (by kernel_rfl) (by kernel_rfl) (fun _ _ _ h => h) (Or.inl ⟨by rfl, ?_⟩) hSd ?_
                    · rintro w6 ⟨k1, k2⟩
                      go_simp
                    simp only [Act.put, List.setIfInBounds_toArray, List.set_cons_zero, List.set_cons_succ]
                    refine wpAnyH_ready (rs := [12]) (by kernel_rfl) (by simp) ?_
                    refine AllReadyH.cons (lit rfl) (fun K5 hK5 => ?_) AllReadyH.nil
                    go_simp
                    go_at_call 28
                    (with_reducible refine (HLS.out _ _ _).mono ?_)
                    rintro e7 w7 ⟨rfl, rfl⟩
                    rw [HL.out]
                    refine hK5.out _ _ hSd (fun _ => ?_)
                    clear hK5 K5
                    refine wpAnyH_take (i := 13) (v := .bool true) (lit rfl) (by kernel_rfl) (by kernel_rfl) (by kernel_rfl) (fun _ _ _ h => h) (Or.inl ⟨by rfl, ?_⟩) hSd ?_
                    · rintro w6 ⟨k1, k2⟩
                      go_simp
                    simp only [Act.put, List.setIfInBounds_toArray, List.set_cons_zero, List.set_cons_succ]
                    refine wpAnyH_take (i := 14) (v := .bool true) (lit rfl) (by kernel_rfl) (by kernel_rfl) (by kernel_rfl) (fun _ _ _ h => h) (Or.inl ⟨by rfl, ?_⟩) hSd ?_
                    · rintro w6 ⟨k1, k2⟩
                      go_simp
                    simp only [Act.put, List.setIfInBounds_toArray, List.set_cons_zero, List.set_cons_succ]
                    refine wpAnyH_done (by kernel_rfl) ?_ _
                    refine hK _ _ ?_
                    clear ca cb hSd HL bx0 bx1 by0 by1 hwa haI
                    go_wp2_with (first
                      | (go_at_call 29; (with_reducible refine (HPE.out _ L1.out).mono ?_); rintro e w8 ⟨rfl, h9, ke1, ke2⟩; have E1 := Lib.hid h9; have KE := Lib.hid (And.intro ke1 ke2); clear ke1 ke2 h9))
                    have k1 := KE.out.1
                    have k2 := KE.out.2
                    go_roundw
                    case rel => exact ⟨mid, b, lim1, false, wp, _, rfl, rfl, rfl, rfl, rfl, by omega, by omega, by omega, E1.out, by rw [← HTL.out, HTE.out k1 k2], by omega⟩
                    case measure => simp [intOf]; omega
                  · have HL := Lib.hid hv
                    have HV : Hid (ltU d1[a - 1]! d1[p0]! = true) := Lib.hid (by rw [ha1, hx, hy]; exact hv)
                    clear hv hx hy ha1
                    obtain ⟨r, hr⟩ : ∃ r, partition ltU d1 a b p0 = r := ⟨_, rfl⟩
                    obtain ⟨k1, k2, k3⟩ := partition_holds ltU swoU d1 a b p0 hp1 hp2 (by rw [HDS.out]; exact hbn)
                    have HPT := Lib.hid (fun w h => oPartU_any (g := g) (off := off) c a b p0 d1 W0 w h hp1 hp2 hbn)
                    rw [hr] at k1 k2 HPT
                    obtain ⟨mid, ap, d4⟩ := r
                    dsimp only at k1 k2 HPT
                    have HTT := Lib.hid (tailU_part (lim := lim1) (wb := false) (wp := wp) (Or.inr HV.out) hr k1 k2)
                    obtain ⟨ll, hll⟩ : ∃ ll : Nat, mid - a = ll := ⟨_, rfl⟩
                    obtain ⟨rl, hrl⟩ : ∃ rl : Nat, b - mid = rl := ⟨_, rfl⟩
                    have hll1 : (mid : Int) - (a : Int) = (ll : Int) := by omega
                    have hrl1 : (b : Int) - (mid : Int) = (rl : Int) := by omega
                    clear hr k3
                    go_wp2
                    rename_i K hK
                    refine wp_held (fun w' : World => w'.cell? ⟨g, off + a1, none⟩ = some (.int .u64 (x : Int)) ∧ w'.cell? ⟨g, off + p0, none⟩ = some (.int .u64 (y : Int))) K hmx ?_ (fun _ _ h => h)
                    refine wpAnyH_take (i := 0) (v := .int .i64 (a : Int)) (lit rfl) (by kernel_rfl) (by kernel_rfl) (by kernel_rfl) (fun _ _ _ h => h) (Or.inl ⟨by rfl, ?_⟩) hSd ?_
                    · rintro w6 ⟨k1, k2⟩
                      go_simp
                    simp only [Act.put, List.setIfInBounds_toArray, List.set_cons_zero, List.set_cons_succ]
                    refine wpAnyH_take (i := 1) (v := .bool true) (lit rfl) (by kernel_rfl) (by kernel_rfl) (by kernel_rfl) (fun _ _ _ h => h) (Or.inl ⟨by rfl, ?_⟩) hSd ?_
                    · rintro w6 ⟨k1, k2⟩
                      go_simp
                    simp only [Act.put, List.setIfInBounds_toArray, List.set_cons_zero, List.set_cons_succ]
                    refine wpAnyH_take (i := 2) (v := .bool true) (lit rfl) (by kernel_rfl) (by kernel_rfl) (by kernel_rfl) (fun _ _ _ h => h) (Or.inl ⟨by rfl, ?_⟩) hSd ?_
                    · rintro w6 ⟨k1, k2⟩
                      go_simp
                    simp only [Act.put, List.setIfInBounds_toArray, List.set_cons_zero, List.set_cons_succ]
                    refine wpAnyH_take (i := 3) (v := .slice (some ⟨g, off, none⟩) n c) (lit rfl) (by kernel_rfl) (by kernel_rfl) (by kernel_rfl) (fun _ _ _ h => h) (Or.inl ⟨by rfl, ?_⟩) hSd ?_
                    · rintro w6 ⟨k1, k2⟩
                      go_simp
                    simp only [Act.put, List.setIfInBounds_toArray, List.set_cons_zero, List.set_cons_succ]
                    refine wpAnyH_take (i := 4) (v := .int .i64 (a : Int)) (lit rfl) (by kernel_rfl) (by kernel_rfl) (by kernel_rfl) (fun _ _ _ h => h) (Or.inl ⟨by rfl, ?_⟩) hSd ?_
                    · rintro w6 ⟨k1, k2⟩
                      go_simp
                    simp only [Act.put, List.setIfInBounds_toArray, List.set_cons_zero, List.set_cons_succ]
                    refine wpAnyH_take (i := 5) (v := .int .i64 (a1 : Int)) (lit rfl) (by kernel_rfl) (by kernel_rfl) (by kernel_rfl) (fun _ _ _ h => h) (Or.inl ⟨by rfl, ?_⟩) hSd ?_
                    · rintro w6 ⟨k1, k2⟩
                      go_simp
                    simp only [Act.put, List.setIfInBounds_toArray, List.set_cons_zero, List.set_cons_succ]
                    refine wpAnyH_take (i := 6) (v := .pointer (some ⟨g, off + a1, none⟩)) (lit rfl) (by kernel_rfl) (by kernel_rfl) (by kernel_rfl) (fun _ _ _ h => h) (Or.inl ⟨by rfl, ?_⟩) hSd ?_
                    · rintro w6 ⟨k1, k2⟩
                      go_simp
                    simp only [Act.put, List.setIfInBounds_toArray, List.set_cons_zero, List.set_cons_succ]
                    refine wpAnyH_take (i := 7) (v := .int .u64 (x : Int)) (lit rfl) (by kernel_rfl) (by kernel_rfl) (by kernel_rfl) (fun _ _ _ h => h) (Or.inl ⟨by rfl, ?_⟩) hSd ?_
                    · rintro w6 ⟨k1, k2⟩
                      go_simp
                    simp only [Act.put, List.setIfInBounds_toArray, List.set_cons_zero, List.set_cons_succ]
                    refine wpAnyH_take (i := 8) (v := .slice (some ⟨g, off, none⟩) n c) (lit rfl) (by kernel_rfl) (by kernel_rfl) (by kernel_rfl) (fun _ _ _ h => h) (Or.inl ⟨by rfl, ?_⟩) hSd ?_
                    · rintro w6 ⟨k1, k2⟩
                      go_simp
                    simp only [Act.put, List.setIfInBounds_toArray, List.set_cons_zero, List.set_cons_succ]
                    refine wpAnyH_take (i := 9) (v := .int .i64 (p0 : Int)) (lit rfl) (by kernel_rfl) (by kernel_rfl) (by kernel_rfl) (fun _ _ _ h => h) (Or.inl ⟨by rfl, ?_⟩) hSd ?_
                    · rintro w6 ⟨k1, k2⟩
                      go_simp
                    simp only [Act.put, List.setIfInBounds_toArray, List.set_cons_zero, List.set_cons_succ]
                    refine wpAnyH_take (i := 10) (v := .pointer (some ⟨g, off + p0, none⟩)) (lit rfl) (by kernel_rfl) (by kernel_rfl) (by kernel_rfl) (fun _ _ _ h => h) (Or.inl ⟨by rfl, ?_⟩) hSd ?_
                    · rintro w6 ⟨k1, k2⟩
                      go_simp
                    simp only [Act.put, List.setIfInBounds_toArray, List.set_cons_zero, List.set_cons_succ]
                    refine wpAnyH_take (i := 11) (v := .int .u64 (y : Int)) (lit rfl) (by kernel_rfl) (by kernel_rfl) (by kernel_rfl) (fun _ _ _ h => h) (Or.inl ⟨by rfl, ?_⟩) hSd ?_
                    · rintro w6 ⟨k1, k2⟩
                      go_simp
                    simp only [Act.put, List.setIfInBounds_toArray, List.set_cons_zero, List.set_cons_succ]
                    refine wpAnyH_ready (rs := [12]) (by kernel_rfl) (by simp) ?_
                    refine AllReadyH.cons (lit rfl) (fun K5 hK5 => ?_) AllReadyH.nil
                    go_simp
                    go_at_call 28
                    (with_reducible refine (HLS.out _ _ _).mono ?_)
                    rintro e7 w7 ⟨rfl, rfl⟩
                    rw [HL.out]
                    refine hK5.out _ _ hSd (fun _ => ?_)
                    clear hK5 K5
                    refine wpAnyH_take (i := 13) (v := .bool false) (lit rfl) (by kernel_rfl) (by kernel_rfl) (by kernel_rfl) (fun _ _ _ h => h) (Or.inl ⟨by rfl, ?_⟩) hSd ?_
                    · rintro w6 ⟨k1, k2⟩
                      go_simp
                    simp only [Act.put, List.setIfInBounds_toArray, List.set_cons_zero, List.set_cons_succ]
                    refine wpAnyH_take (i := 14) (v := .bool false) (lit rfl) (by kernel_rfl) (by kernel_rfl) (by kernel_rfl) (fun _ _ _ h => h) (Or.inl ⟨by rfl, ?_⟩) hSd ?_
                    · rintro w6 ⟨k1, k2⟩
                      go_simp
                    simp only [Act.put, List.setIfInBounds_toArray, List.set_cons_zero, List.set_cons_succ]
                    refine wpAnyH_done (by kernel_rfl) ?_ _
                    refine hK _ _ ?_
                    clear ca cb hSd HL bx0 bx1 by0 by1 hwa haI
                    by_cases hlr : mid - a < b - mid
                    · have g9 : (ll : Int) < (rl : Int) := by omega
                      go_wp2_with (first
                        | (go_at_call 30; (with_reducible refine (HPT.out _ L1.out).mono ?_); rintro e w8 ⟨rfl, h9⟩; have T1 := Lib.hid h9; clear h9)
                        | (go_at_call 20; (with_reducible refine (IH.out a mid lim1 d4 _ T1.out (by omega) (by omega) (by omega) (by omega)).mono ?_); rintro e w8 ⟨rfl, h9⟩; have Q1 := Lib.hid h9; clear h9))
                      go_roundw
                      case rel => exact ⟨mid + 1, b, lim1, _, ap, _, by go_num, rfl, rfl, congrArg Value.bool (show decide (q8 ≤ ll) = decide (mid - a ≥ (b - a) / 8) from decide_eq_decide.2 (by omega)), rfl, by omega, by omega, by omega, Q1.out, by rw [← HTL.out, HTT.out, if_pos hlr], by omega⟩
                      case measure => simp [intOf]; omega
                    · have g9 : ¬ (ll : Int) < (rl : Int) := by omega
                      have IHR := Lib.hid (fun w h => IH.out (mid + 1) b lim1 d4 w h (by omega) (by omega) hbn (by omega))
                      rw [show ((mid + 1 : Nat) : Int) = (mid : Int) + 1 by omega] at IHR
                      go_wp2_with (first
                        | (go_at_call 30; (with_reducible refine (HPT.out _ L1.out).mono ?_); rintro e w8 ⟨rfl, h9⟩; have T1 := Lib.hid h9; clear h9)
                        | (go_at_call 20; (with_reducible refine (IHR.out _ T1.out).mono ?_); rintro e w8 ⟨rfl, h9⟩; have Q1 := Lib.hid h9; clear h9))
                      go_roundw
                      case rel => exact ⟨a, mid, lim1, _, ap, _, rfl, rfl, rfl, congrArg Value.bool (show decide (q8 ≤ rl) = decide (b - mid ≥ (b - a) / 8) from decide_eq_decide.2 (by omega)), rfl, by omega, by omega, by omega, Q1.out, by rw [← HTL.out, HTT.out, if_neg hlr], by omega⟩
                      case measure => simp [intOf]; omega
                · have ga0 : ¬ (0 : Int) < (a : Int) := by omega
                  have L1 := Lib.hid C1.out.drew
                  obtain ⟨r, hr⟩ : ∃ r, partition ltU d1 a b p0 = r := ⟨_, rfl⟩
                  obtain ⟨k1, k2, k3⟩ := partition_holds ltU swoU d1 a b p0 hp1 hp2 (by rw [HDS.out]; exact hbn)
                  have HPT := Lib.hid (fun w h => oPartU_any (g := g) (off := off) c a b p0 d1 W0 w h hp1 hp2 hbn)
                  rw [hr] at k1 k2 HPT
                  obtain ⟨mid, ap, d4⟩ := r
                  dsimp only at k1 k2 HPT
                  have HTT := Lib.hid (tailU_part (lim := lim1) (wb := false) (wp := wp) (Or.inl ha0) hr k1 k2)
                  obtain ⟨ll, hll⟩ : ∃ ll : Nat, mid - a = ll := ⟨_, rfl⟩
                  obtain ⟨rl, hrl⟩ : ∃ rl : Nat, b - mid = rl := ⟨_, rfl⟩
                  have hll1 : (mid : Int) - (a : Int) = (ll : Int) := by omega
                  have hrl1 : (b : Int) - (mid : Int) = (rl : Int) := by omega
                  clear hr k3
                  go_wp2
                  rename_i K hK
                  refine wp_held (fun _ : World => True) K hmx ?_ (fun _ _ h => h)
                  refine wpAnyH_take (i := 0) (v := .int .i64 (a : Int)) (lit rfl) (by kernel_rfl) (by kernel_rfl) (by kernel_rfl) (fun _ _ _ h => h) (Or.inl ⟨by rfl, ?_⟩) trivial ?_
                  · rintro w6 k1
                    go_simp
                  simp only [Act.put, List.setIfInBounds_toArray, List.set_cons_zero, List.set_cons_succ]
                  refine wpAnyH_take (i := 1) (v := .bool false) (lit rfl) (by kernel_rfl) (by kernel_rfl) (by kernel_rfl) (fun _ _ _ h => h) (Or.inl ⟨by rfl, ?_⟩) trivial ?_
                  · rintro w6 k1
                    go_simp
                  simp only [Act.put, List.setIfInBounds_toArray, List.set_cons_zero, List.set_cons_succ]
                  refine wpAnyH_take (i := 2) (v := .bool false) (lit rfl) (by kernel_rfl) (by kernel_rfl) (by kernel_rfl) (fun _ _ _ h => h) (Or.inl ⟨by rfl, ?_⟩) trivial ?_
                  · rintro w6 k1
                    go_simp
                  simp only [Act.put, List.setIfInBounds_toArray, List.set_cons_zero, List.set_cons_succ]
                  refine wpAnyH_take (i := 3) (v := undef) (lit rfl) (by kernel_rfl) (by kernel_rfl) (by kernel_rfl) (fun _ _ _ h => h) (Or.inr ⟨by rfl, rfl⟩) trivial ?_
                  simp only [Act.put, List.setIfInBounds_toArray, List.set_cons_zero, List.set_cons_succ]
                  refine wpAnyH_take (i := 4) (v := undef) (lit rfl) (by kernel_rfl) (by kernel_rfl) (by kernel_rfl) (fun _ _ _ h => h) (Or.inr ⟨by rfl, rfl⟩) trivial ?_
                  simp only [Act.put, List.setIfInBounds_toArray, List.set_cons_zero, List.set_cons_succ]
                  refine wpAnyH_take (i := 5) (v := undef) (lit rfl) (by kernel_rfl) (by kernel_rfl) (by kernel_rfl) (fun _ _ _ h => h) (Or.inr ⟨by rfl, rfl⟩) trivial ?_
                  simp only [Act.put, List.setIfInBounds_toArray, List.set_cons_zero, List.set_cons_succ]
                  refine wpAnyH_take (i := 6) (v := undef) (lit rfl) (by kernel_rfl) (by kernel_rfl) (by kernel_rfl) (fun _ _ _ h => h) (Or.inr ⟨by rfl, rfl⟩) trivial ?_
                  simp only [Act.put, List.setIfInBounds_toArray, List.set_cons_zero, List.set_cons_succ]
                  refine wpAnyH_take (i := 7) (v := undef) (lit rfl) (by kernel_rfl) (by kernel_rfl) (by kernel_rfl) (fun _ _ _ h => h) (Or.inr ⟨by rfl, rfl⟩) trivial ?_
                  simp only [Act.put, List.setIfInBounds_toArray, List.set_cons_zero, List.set_cons_succ]
                  refine wpAnyH_take (i := 8) (v := undef) (lit rfl) (by kernel_rfl) (by kernel_rfl) (by kernel_rfl) (fun _ _ _ h => h) (Or.inr ⟨by rfl, rfl⟩) trivial ?_
                  simp only [Act.put, List.setIfInBounds_toArray, List.set_cons_zero, List.set_cons_succ]
                  refine wpAnyH_take (i := 9) (v := undef) (lit rfl) (by kernel_rfl) (by kernel_rfl) (by kernel_rfl) (fun _ _ _ h => h) (Or.inr ⟨by rfl, rfl⟩) trivial ?_
                  simp only [Act.put, List.setIfInBounds_toArray, List.set_cons_zero, List.set_cons_succ]
                  refine wpAnyH_take (i := 10) (v := undef) (lit rfl) (by kernel_rfl) (by kernel_rfl) (by kernel_rfl) (fun _ _ _ h => h) (Or.inr ⟨by rfl, rfl⟩) trivial ?_
                  simp only [Act.put, List.setIfInBounds_toArray, List.set_cons_zero, List.set_cons_succ]
                  refine wpAnyH_take (i := 11) (v := undef) (lit rfl) (by kernel_rfl) (by kernel_rfl) (by kernel_rfl) (fun _ _ _ h => h) (Or.inr ⟨by rfl, rfl⟩) trivial ?_
                  simp only [Act.put, List.setIfInBounds_toArray, List.set_cons_zero, List.set_cons_succ]
                  refine wpAnyH_take (i := 12) (v := undef) (lit rfl) (by kernel_rfl) (by kernel_rfl) (by kernel_rfl) (fun _ _ _ h => h) (Or.inr ⟨by rfl, rfl⟩) trivial ?_
                  simp only [Act.put, List.setIfInBounds_toArray, List.set_cons_zero, List.set_cons_succ]
                  refine wpAnyH_take (i := 13) (v := undef) (lit rfl) (by kernel_rfl) (by kernel_rfl) (by kernel_rfl) (fun _ _ _ h => h) (Or.inr ⟨by rfl, rfl⟩) trivial ?_
                  simp only [Act.put, List.setIfInBounds_toArray, List.set_cons_zero, List.set_cons_succ]
                  refine wpAnyH_take (i := 14) (v := .bool false) (lit rfl) (by kernel_rfl) (by kernel_rfl) (by kernel_rfl) (fun _ _ _ h => h) (Or.inl ⟨by rfl, ?_⟩) trivial ?_
                  · rintro w6 k1
                    go_simp
                  simp only [Act.put, List.setIfInBounds_toArray, List.set_cons_zero, List.set_cons_succ]
                  refine wpAnyH_done (by kernel_rfl) ?_ _
                  refine hK _ _ ?_
                  by_cases hlr : mid - a < b - mid
                  · have g9 : (ll : Int) < (rl : Int) := by omega
                    go_wp2_with (first
                      | (go_at_call 30; (with_reducible refine (HPT.out _ L1.out).mono ?_); rintro e w8 ⟨rfl, h9⟩; have T1 := Lib.hid h9; clear h9)
                      | (go_at_call 20; (with_reducible refine (IH.out a mid lim1 d4 _ T1.out (by omega) (by omega) (by omega) (by omega)).mono ?_); rintro e w8 ⟨rfl, h9⟩; have Q1 := Lib.hid h9; clear h9))
                    go_roundw
                    case rel => exact ⟨mid + 1, b, lim1, _, ap, _, by go_num, rfl, rfl, congrArg Value.bool (show decide (q8 ≤ ll) = decide (mid - a ≥ (b - a) / 8) from decide_eq_decide.2 (by omega)), rfl, by omega, by omega, by omega, Q1.out, by rw [← HTL.out, HTT.out, if_pos hlr], by omega⟩
                    case measure => simp [intOf]; omega
                  · have g9 : ¬ (ll : Int) < (rl : Int) := by omega
                    have IHR := Lib.hid (fun w h => IH.out (mid + 1) b lim1 d4 w h (by omega) (by omega) hbn (by omega))
                    rw [show ((mid + 1 : Nat) : Int) = (mid : Int) + 1 by omega] at IHR
                    go_wp2_with (first
                      | (go_at_call 30; (with_reducible refine (HPT.out _ L1.out).mono ?_); rintro e w8 ⟨rfl, h9⟩; have T1 := Lib.hid h9; clear h9)
                      | (go_at_call 20; (with_reducible refine (IHR.out _ T1.out).mono ?_); rintro e w8 ⟨rfl, h9⟩; have Q1 := Lib.hid h9; clear h9))
                    go_roundw
                    case rel => exact ⟨a, mid, lim1, _, ap, _, rfl, rfl, rfl, congrArg Value.bool (show decide (q8 ≤ rl) = decide (b - mid ≥ (b - a) / 8) from decide_eq_decide.2 (by omega)), rfl, by omega, by omega, by omega, Q1.out, by rw [← HTL.out, HTT.out, if_neg hlr], by omega⟩
                    case measure => simp [intOf]; omega
            case increasing =>
              simp only [hintU] at hcp
              have HCP := Lib.hid hcp
              clear hcp
              have hp1 := hch.1
              have hp2 := hch.2
              have HTL : Hid (pdqUTail d1 a b lim1 p0 false wp = pdq ltU d a0 b0 lim0 true true) := Lib.hid (by rw [← K4.out, HU.out]; rfl)
              go_wp2_with (first
                | (go_at_call 24; (with_reducible refine (HBP.out _ K1.out).mono ?_); rintro e w8 ⟨rfl, h9⟩; have B1 := Lib.hid h9; clear h9)
                | (go_at_call 25; (with_reducible refine (HCP.out _ B1.out).mono ?_); rintro e w8 ⟨rfl, h9⟩; have C1 := Lib.hid h9; clear h9))
              have HDS := Lib.hid C1.out.size
              as_aux_lemma =>
                by_cases ha0 : 0 < a
                · have ga0 : (0 : Int) < (a : Int) := by omega
                  obtain ⟨a1, ha1⟩ : ∃ a1, a - 1 = a1 := ⟨_, rfl⟩
                  have haI : (a : Int) - 1 = (a1 : Int) := by omega
                  have hwa : IntKind.i64.wrap (a1 : Int) = (a1 : Int) := by rw [IntKind.wrap_i64]; omega
                  have L1 := Lib.hid C1.out.drew
                  have ca := C1.out.cell a1 (by omega)
                  have cb := C1.out.cell p0 (by omega)
                  obtain ⟨x, hx⟩ : ∃ x, d1[a1]! = x := ⟨_, rfl⟩
                  obtain ⟨y, hy⟩ : ∃ y, d1[p0]! = y := ⟨_, rfl⟩
                  rw [hx] at ca
                  rw [hy] at cb
                  have bx0 : (0 : Int) ≤ (a1 : Int) := by omega
                  have bx1 : (a1 : Int) < (n : Int) := by omega
                  have by0 : (0 : Int) ≤ (p0 : Int) := by omega
                  have by1 : (p0 : Int) < (n : Int) := by omega
                  have hSd : (fun w' : World => w'.cell? ⟨g, off + a1, none⟩ = some (.int .u64 (x : Int)) ∧ w'.cell? ⟨g, off + p0, none⟩ = some (.int .u64 (y : Int))) _ := ⟨ca, cb⟩
                  cases hv : ltU x y
                  · have HL := Lib.hid hv
                    have HV : Hid (ltU d1[a - 1]! d1[p0]! = false) := Lib.hid (by rw [ha1, hx, hy]; exact hv)
                    have HPE := Lib.hid (fun w h => oPartEqU_any (g := g) (off := off) c a b p0 d1 W0 w h hp1 hp2 hbn)
                    have HTE := Lib.hid (fun h1 h2 => tailU_eq (b := b) (lim := lim1) (wb := false) (wp := wp) ha0 HV.out h1 h2)
                    clear hv hx hy ha1
                    generalize partitionEqual ltU d1 a b p0 = r at HPE HTE
                    obtain ⟨mid, d4⟩ := r
                    dsimp only at HPE HTE
                    go_wp2
                    rename_i K hK
                    refine wp_held (fun w' : World => w'.cell? ⟨g, off + a1, none⟩ = some (.int .u64 (x : Int)) ∧ w'.cell? ⟨g, off + p0, none⟩ = some (.int .u64 (y : Int))) K hmx ?_ (fun _ _ h => h)
                    refine wpAnyH_take (i := 0) (v := .int .i64 (a : Int)) (lit rfl) (by kernel_rfl) (by kernel_rfl) (by kernel_rfl) (fun _ _ _ h => h) (Or.inl ⟨by rfl, ?_⟩) hSd ?_
                    · rintro w6 ⟨k1, k2⟩
                      go_simp
                    simp only [Act.put, List.setIfInBounds_toArray, List.set_cons_zero, List.set_cons_succ]
                    refine wpAnyH_take (i := 1) (v := .bool true) (lit rfl) (by kernel_rfl) (by kernel_rfl) (by kernel_rfl) (fun _ _ _ h => h) (Or.inl ⟨by rfl, ?_⟩) hSd ?_
                    · rintro w6 ⟨k1, k2⟩
                      go_simp
                    simp only [Act.put, List.setIfInBounds_toArray, List.set_cons_zero, List.set_cons_succ]
                    refine wpAnyH_take (i := 2) (v := .bool true) (lit rfl) (by kernel_rfl) (by kernel_rfl) (by kernel_rfl) (fun _ _ _ h => h) (Or.inl ⟨by rfl, ?_⟩) hSd ?_
                    · rintro w6 ⟨k1, k2⟩
                      go_simp
                    simp only [Act.put, List.setIfInBounds_toArray, List.set_cons_zero, List.set_cons_succ]
                    refine wpAnyH_take (i := 3) (v := .slice (some ⟨g, off, none⟩) n c) (lit rfl) (by kernel_rfl) (by kernel_rfl) (by kernel_rfl) (fun _ _ _ h => h) (Or.inl ⟨by rfl, ?_⟩) hSd ?_
                    · rintro w6 ⟨k1, k2⟩
                      go_simp
                    simp only [Act.put, List.setIfInBounds_toArray, List.set_cons_zero, List.set_cons_succ]
                    refine wpAnyH_take (i := 4) (v := .int .i64 (a : Int)) (lit rfl) (by kernel_rfl) (by kernel_rfl) (by kernel_rfl) (fun _ _ _ h => h) (Or.inl ⟨by rfl, ?_⟩) hSd ?_
                    · rintro w6 ⟨k1, k2⟩
                      go_simp
                    simp only [Act.put, List.setIfInBounds_toArray, List.set_cons_zero, List.set_cons_succ]
                    refine wpAnyH_take (i := 5) (v := .int .i64 (a1 : Int)) (lit rfl) (by kernel_rfl) (by kernel_rfl) (by kernel_rfl) (fun _ _ _ h => h) (Or.inl ⟨by rfl, ?_⟩) hSd ?_
                    · rintro w6 ⟨k1, k2⟩
                      go_simp
                    simp only [Act.put, List.setIfInBounds_toArray, List.set_cons_zero, List.set_cons_succ]
                    refine wpAnyH_take (i := 6) (v := .pointer (some ⟨g, off + a1, none⟩)) (lit rfl) (by kernel_rfl) (by kernel_rfl) (by kernel_rfl) (fun _ _ _ h => h) (Or.inl ⟨by rfl, ?_⟩) hSd ?_
                    · rintro w6 ⟨k1, k2⟩
                      go_simp
                    simp only [Act.put, List.setIfInBounds_toArray, List.set_cons_zero, List.set_cons_succ]
                    refine wpAnyH_take (i := 7) (v := .int .u64 (x : Int)) (lit rfl) (by kernel_rfl) (by kernel_rfl) (by kernel_rfl) (fun _ _ _ h => h) (Or.inl ⟨by rfl, ?_⟩) hSd ?_
                    · rintro w6 ⟨k1, k2⟩
                      go_simp
                    simp only [Act.put, List.setIfInBounds_toArray, List.set_cons_zero, List.set_cons_succ]
                    refine wpAnyH_take (i := 8) (v := .slice (some ⟨g, off, none⟩) n c) (lit rfl) (by kernel_rfl) (by kernel_rfl) (by kernel_rfl) (fun _ _ _ h => h) (Or.inl ⟨by rfl, ?_⟩) hSd ?_
                    · rintro w6 ⟨k1, k2⟩
                      go_simp
                    simp only [Act.put, List.setIfInBounds_toArray, List.set_cons_zero, List.set_cons_succ]
                    refine wpAnyH_take (i := 9) (v := .int .i64 (p0 : Int)) (lit rfl) (by kernel_rfl) (by kernel_rfl) (by kernel_rfl) (fun _ _ _ h => h) (Or.inl ⟨by rfl, ?_⟩) hSd ?_
                    · rintro w6 ⟨k1, k2⟩
                      go_simp
                    simp only [Act.put, List.setIfInBounds_toArray, List.set_cons_zero, List.set_cons_succ]
                    refine wpAnyH_take (i := 10) (v := .pointer (some ⟨g, off + p0, none⟩)) (lit rfl) (by kernel_rfl) (by kernel_rfl) (by kernel_rfl) (fun _ _ _ h => h) (Or.inl ⟨by rfl, ?_⟩) hSd ?_
                    · rintro w6 ⟨k1, k2⟩
                      go_simp
                    simp only [Act.put, List.setIfInBounds_toArray, List.set_cons_zero, List.set_cons_succ]
                    refine wpAnyH_take (i := 11) (v := .int .u64 (y : Int)) (lit rfl) (by kernel_rfl) (by kernel_rfl) (by kernel_rfl) (fun _ _ _ h => h) (Or.inl ⟨by rfl, ?_⟩) hSd ?_
                    · rintro w6 ⟨k1, k2⟩
                      go_simp
                    simp only [Act.put, List.setIfInBounds_toArray, List.set_cons_zero, List.set_cons_succ]
                    refine wpAnyH_ready (rs := [12]) (by kernel_rfl) (by simp) ?_
                    refine AllReadyH.cons (lit rfl) (fun K5 hK5 => ?_) AllReadyH.nil
                    go_simp
                    go_at_call 28
                    (with_reducible refine (HLS.out _ _ _).mono ?_)
                    rintro e7 w7 ⟨rfl, rfl⟩
                    rw [HL.out]
                    refine hK5.out _ _ hSd (fun _ => ?_)
                    clear hK5 K5
                    refine wpAnyH_take (i := 13) (v := .bool true) (lit rfl) (by kernel_rfl) (by kernel_rfl) (by kernel_rfl) (fun _ _ _ h => h) (Or.inl ⟨by rfl, ?_⟩) hSd ?_
                    · rintro w6 ⟨k1, k2⟩
                      go_simp
                    simp only [Act.put, List.setIfInBounds_toArray, List.set_cons_zero, List.set_cons_succ]
                    refine wpAnyH_take (i := 14) (v := .bool true) (lit rfl) (by kernel_rfl) (by kernel_rfl) (by kernel_rfl) (fun _ _ _ h => h) (Or.inl ⟨by rfl, ?_⟩) hSd ?_
                    · rintro w6 ⟨k1, k2⟩
                      go_simp
                    simp only [Act.put, List.setIfInBounds_toArray, List.set_cons_zero, List.set_cons_succ]
                    refine wpAnyH_done (by kernel_rfl) ?_ _
                    refine hK _ _ ?_
                    clear ca cb hSd HL bx0 bx1 by0 by1 hwa haI
                    go_wp2_with (first
                      | (go_at_call 29; (with_reducible refine (HPE.out _ L1.out).mono ?_); rintro e w8 ⟨rfl, h9, ke1, ke2⟩; have E1 := Lib.hid h9; have KE := Lib.hid (And.intro ke1 ke2); clear ke1 ke2 h9))
                    have k1 := KE.out.1
                    have k2 := KE.out.2
                    go_roundw
                    case rel => exact ⟨mid, b, lim1, false, wp, _, rfl, rfl, rfl, rfl, rfl, by omega, by omega, by omega, E1.out, by rw [← HTL.out, HTE.out k1 k2], by omega⟩
                    case measure => simp [intOf]; omega
                  · have HL := Lib.hid hv
                    have HV : Hid (ltU d1[a - 1]! d1[p0]! = true) := Lib.hid (by rw [ha1, hx, hy]; exact hv)
                    clear hv hx hy ha1
                    obtain ⟨r, hr⟩ : ∃ r, partition ltU d1 a b p0 = r := ⟨_, rfl⟩
                    obtain ⟨k1, k2, k3⟩ := partition_holds ltU swoU d1 a b p0 hp1 hp2 (by rw [HDS.out]; exact hbn)
                    have HPT := Lib.hid (fun w h => oPartU_any (g := g) (off := off) c a b p0 d1 W0 w h hp1 hp2 hbn)
                    rw [hr] at k1 k2 HPT
                    obtain ⟨mid, ap, d4⟩ := r
                    dsimp only at k1 k2 HPT
                    have HTT := Lib.hid (tailU_part (lim := lim1) (wb := false) (wp := wp) (Or.inr HV.out) hr k1 k2)
                    obtain ⟨ll, hll⟩ : ∃ ll : Nat, mid - a = ll := ⟨_, rfl⟩
                    obtain ⟨rl, hrl⟩ : ∃ rl : Nat, b - mid = rl := ⟨_, rfl⟩
                    have hll1 : (mid : Int) - (a : Int) = (ll : Int) := by omega
                    have hrl1 : (b : Int) - (mid : Int) = (rl : Int) := by omega
                    clear hr k3
                    go_wp2
                    rename_i K hK
                    refine wp_held (fun w' : World => w'.cell? ⟨g, off + a1, none⟩ = some (.int .u64 (x : Int)) ∧ w'.cell? ⟨g, off + p0, none⟩ = some (.int .u64 (y : Int))) K hmx ?_ (fun _ _ h => h)
                    refine wpAnyH_take (i := 0) (v := .int .i64 (a : Int)) (lit rfl) (by kernel_rfl) (by kernel_rfl) (by kernel_rfl) (fun _ _ _ h => h) (Or.inl ⟨by rfl, ?_⟩) hSd ?_
                    · rintro w6 ⟨k1, k2⟩
                      go_simp
                    simp only [Act.put, List.setIfInBounds_toArray, List.set_cons_zero, List.set_cons_succ]
                    refine wpAnyH_take (i := 1) (v := .bool true) (lit rfl) (by kernel_rfl) (by kernel_rfl) (by kernel_rfl) (fun _ _ _ h => h) (Or.inl ⟨by rfl, ?_⟩) hSd ?_
                    · rintro w6 ⟨k1, k2⟩
                      go_simp
                    simp only [Act.put, List.setIfInBounds_toArray, List.set_cons_zero, List.set_cons_succ]
                    refine wpAnyH_take (i := 2) (v := .bool true) (lit rfl) (by kernel_rfl) (by kernel_rfl) (by kernel_rfl) (fun _ _ _ h => h) (Or.inl ⟨by rfl, ?_⟩) hSd ?_
                    · rintro w6 ⟨k1, k2⟩
                      go_simp
                    simp only [Act.put, List.setIfInBounds_toArray, List.set_cons_zero, List.set_cons_succ]
                    refine wpAnyH_take (i := 3) (v := .slice (some ⟨g, off, none⟩) n c) (lit rfl) (by kernel_rfl) (by kernel_rfl) (by kernel_rfl) (fun _ _ _ h => h) (Or.inl ⟨by rfl, ?_⟩) hSd ?_
                    · rintro w6 ⟨k1, k2⟩
                      go_simp
                    simp only [Act.put, List.setIfInBounds_toArray, List.set_cons_zero, List.set_cons_succ]
                    refine wpAnyH_take (i := 4) (v := .int .i64 (a : Int)) (lit rfl) (by kernel_rfl) (by kernel_rfl) (by kernel_rfl) (fun _ _ _ h => h) (Or.inl ⟨by rfl, ?_⟩) hSd ?_
                    · rintro w6 ⟨k1, k2⟩
                      go_simp
                    simp only [Act.put, List.setIfInBounds_toArray, List.set_cons_zero, List.set_cons_succ]
                    refine wpAnyH_take (i := 5) (v := .int .i64 (a1 : Int)) (lit rfl) (by kernel_rfl) (by kernel_rfl) (by kernel_rfl) (fun _ _ _ h => h) (Or.inl ⟨by rfl, ?_⟩) hSd ?_
                    · rintro w6 ⟨k1, k2⟩
                      go_simp
                    simp only [Act.put, List.setIfInBounds_toArray, List.set_cons_zero, List.set_cons_succ]
                    refine wpAnyH_take (i := 6) (v := .pointer (some ⟨g, off + a1, none⟩)) (lit rfl) (by kernel_rfl) (by kernel_rfl) (by kernel_rfl) (fun _ _ _ h => h) (Or.inl ⟨by rfl, ?_⟩) hSd ?_
                    · rintro w6 ⟨k1, k2⟩
                      go_simp
                    simp only [Act.put, List.setIfInBounds_toArray, List.set_cons_zero, List.set_cons_succ]
                    refine wpAnyH_take (i := 7) (v := .int .u64 (x : Int)) (lit rfl) (by kernel_rfl) (by kernel_rfl) (by kernel_rfl) (fun _ _ _ h => h) (Or.inl ⟨by rfl, ?_⟩) hSd ?_
                    · rintro w6 ⟨k1, k2⟩
                      go_simp
                    simp only [Act.put, List.setIfInBounds_toArray, List.set_cons_zero, List.set_cons_succ]
                    refine wpAnyH_take (i := 8) (v := .slice (some ⟨g, off, none⟩) n c) (lit rfl) (by kernel_rfl) (by kernel_rfl) (by kernel_rfl) (fun _ _ _ h => h) (Or.inl ⟨by rfl, ?_⟩) hSd ?_
                    · rintro w6 ⟨k1, k2⟩
                      go_simp
                    simp only [Act.put, List.setIfInBounds_toArray, List.set_cons_zero, List.set_cons_succ]
                    refine wpAnyH_take (i := 9) (v := .int .i64 (p0 : Int)) (lit rfl) (by kernel_rfl) (by kernel_rfl) (by kernel_rfl) (fun _ _ _ h => h) (Or.inl ⟨by rfl, ?_⟩) hSd ?_
                    · rintro w6 ⟨k1, k2⟩
                      go_simp
                    simp only [Act.put, List.setIfInBounds_toArray, List.set_cons_zero, List.set_cons_succ]
                    refine wpAnyH_take (i := 10) (v := .pointer (some ⟨g, off + p0, none⟩)) (lit rfl) (by kernel_rfl) (by kernel_rfl) (by kernel_rfl) (fun _ _ _ h => h) (Or.inl ⟨by rfl, ?_⟩) hSd ?_
                    · rintro w6 ⟨k1, k2⟩
                      go_simp
                    simp only [Act.put, List.setIfInBounds_toArray, List.set_cons_zero, List.set_cons_succ]
                    refine wpAnyH_take (i := 11) (v := .int .u64 (y : Int)) (lit rfl) (by kernel_rfl) (by kernel_rfl) (by kernel_rfl) (fun _ _ _ h => h) (Or.inl ⟨by rfl, ?_⟩) hSd ?_
                    · rintro w6 ⟨k1, k2⟩
                      go_simp
                    simp only [Act.put, List.setIfInBounds_toArray, List.set_cons_zero, List.set_cons_succ]
                    refine wpAnyH_ready (rs := [12]) (by kernel_rfl) (by simp) ?_
                    refine AllReadyH.cons (lit rfl) (fun K5 hK5 => ?_) AllReadyH.nil
                    go_simp
                    go_at_call 28
                    (with_reducible refine (HLS.out _ _ _).mono ?_)
                    rintro e7 w7 ⟨rfl, rfl⟩
                    rw [HL.out]
                    refine hK5.out _ _ hSd (fun _ => ?_)
                    clear hK5 K5
                    refine wpAnyH_take (i := 13) (v := .bool false) (lit rfl) (by kernel_rfl) (by kernel_rfl) (by kernel_rfl) (fun _ _ _ h => h) (Or.inl ⟨by rfl, ?_⟩) hSd ?_
                    · rintro w6 ⟨k1, k2⟩
                      go_simp
                    simp only [Act.put, List.setIfInBounds_toArray, List.set_cons_zero, List.set_cons_succ]
                    refine wpAnyH_take (i := 14) (v := .bool false) (lit rfl) (by kernel_rfl) (by kernel_rfl) (by kernel_rfl) (fun _ _ _ h => h) (Or.inl ⟨by rfl, ?_⟩) hSd ?_
                    · rintro w6 ⟨k1, k2⟩
                      go_simp
                    simp only [Act.put, List.setIfInBounds_toArray, List.set_cons_zero, List.set_cons_succ]
                    refine wpAnyH_done (by kernel_rfl) ?_ _
                    refine hK _ _ ?_
                    clear ca cb hSd HL bx0 bx1 by0 by1 hwa haI
                    by_cases hlr : mid - a < b - mid
                    · have g9 : (ll : Int) < (rl : Int) := by omega
                      go_wp2_with (first
                        | (go_at_call 30; (with_reducible refine (HPT.out _ L1.out).mono ?_); rintro e w8 ⟨rfl, h9⟩; have T1 := Lib.hid h9; clear h9)
                        | (go_at_call 20; (with_reducible refine (IH.out a mid lim1 d4 _ T1.out (by omega) (by omega) (by omega) (by omega)).mono ?_); rintro e w8 ⟨rfl, h9⟩; have Q1 := Lib.hid h9; clear h9))
                      go_roundw
                      case rel => exact ⟨mid + 1, b, lim1, _, ap, _, by go_num, rfl, rfl, congrArg Value.bool (show decide (q8 ≤ ll) = decide (mid - a ≥ (b - a) / 8) from decide_eq_decide.2 (by omega)), rfl, by omega, by omega, by omega, Q1.out, by rw [← HTL.out, HTT.out, if_pos hlr], by omega⟩
                      case measure => simp [intOf]; omega
                    · have g9 : ¬ (ll : Int) < (rl : Int) := by omega
                      have IHR := Lib.hid (fun w h => IH.out (mid + 1) b lim1 d4 w h (by omega) (by omega) hbn (by omega))
                      rw [show ((mid + 1 : Nat) : Int) = (mid : Int) + 1 by omega] at IHR
                      go_wp2_with (first
                        | (go_at_call 30; (with_reducible refine (HPT.out _ L1.out).mono ?_); rintro e w8 ⟨rfl, h9⟩; have T1 := Lib.hid h9; clear h9)
                        | (go_at_call 20; (with_reducible refine (IHR.out _ T1.out).mono ?_); rintro e w8 ⟨rfl, h9⟩; have Q1 := Lib.hid h9; clear h9))
                      go_roundw
                      case rel => exact ⟨a, mid, lim1, _, ap, _, rfl, rfl, rfl, congrArg Value.bool (show decide (q8 ≤ rl) = decide (b - mid ≥ (b - a) / 8) from decide_eq_decide.2 (by omega)), rfl, by omega, by omega, by omega, Q1.out, by rw [← HTL.out, HTT.out, if_neg hlr], by omega⟩
                      case measure => simp [intOf]; omega
                · have ga0 : ¬ (0 : Int) < (a : Int) := by omega
                  have L1 := Lib.hid C1.out.drew
                  obtain ⟨r, hr⟩ : ∃ r, partition ltU d1 a b p0 = r := ⟨_, rfl⟩
                  obtain ⟨k1, k2, k3⟩ := partition_holds ltU swoU d1 a b p0 hp1 hp2 (by rw [HDS.out]; exact hbn)
                  have HPT := Lib.hid (fun w h => oPartU_any (g := g) (off := off) c a b p0 d1 W0 w h hp1 hp2 hbn)
                  rw [hr] at k1 k2 HPT
                  obtain ⟨mid, ap, d4⟩ := r
                  dsimp only at k1 k2 HPT
                  have HTT := Lib.hid (tailU_part (lim := lim1) (wb := false) (wp := wp) (Or.inl ha0) hr k1 k2)
                  obtain ⟨ll, hll⟩ : ∃ ll : Nat, mid - a = ll := ⟨_, rfl⟩
                  obtain ⟨rl, hrl⟩ : ∃ rl : Nat, b - mid = rl := ⟨_, rfl⟩
                  have hll1 : (mid : Int) - (a : Int) = (ll : Int) := by omega
                  have hrl1 : (b : Int) - (mid : Int) = (rl : Int) := by omega
                  clear hr k3
                  go_wp2
                  rename_i K hK
                  refine wp_held (fun _ : World => True) K hmx ?_ (fun _ _ h => h)
                  refine wpAnyH_take (i := 0) (v := .int .i64 (a : Int)) (lit rfl) (by kernel_rfl) (by kernel_rfl) (by kernel_rfl) (fun _ _ _ h => h) (Or.inl ⟨by rfl, ?_⟩) trivial ?_
                  · rintro w6 k1
                    go_simp
                  simp only [Act.put, List.setIfInBounds_toArray, List.set_cons_zero, List.set_cons_succ]
                  refine wpAnyH_take (i := 1) (v := .bool false) (lit rfl) (by kernel_rfl) (by kernel_rfl) (by kernel_rfl) (fun _ _ _ h => h) (Or.inl ⟨by rfl, ?_⟩) trivial ?_
                  · rintro w6 k1
                    go_simp
                  simp only [Act.put, List.setIfInBounds_toArray, List.set_cons_zero, List.set_cons_succ]
                  refine wpAnyH_take (i := 2) (v := .bool false) (lit rfl) (by kernel_rfl) (by kernel_rfl) (by kernel_rfl) (fun _ _ _ h => h) (Or.inl ⟨by rfl, ?_⟩) trivial ?_
                  · rintro w6 k1
                    go_simp
                  simp only [Act.put, List.setIfInBounds_toArray, List.set_cons_zero, List.set_cons_succ]
                  refine wpAnyH_take (i := 3) (v := undef) (lit rfl) (by kernel_rfl) (by kernel_rfl) (by kernel_rfl) (fun _ _ _ h => h) (Or.inr ⟨by rfl, rfl⟩) trivial ?_
                  simp only [Act.put, List.setIfInBounds_toArray, List.set_cons_zero, List.set_cons_succ]
                  refine wpAnyH_take (i := 4) (v := undef) (lit rfl) (by kernel_rfl) (by kernel_rfl) (by kernel_rfl) (fun _ _ _ h => h) (Or.inr ⟨by rfl, rfl⟩) trivial ?_
                  simp only [Act.put, List.setIfInBounds_toArray, List.set_cons_zero, List.set_cons_succ]
                  refine wpAnyH_take (i := 5) (v := undef) (lit rfl) (by kernel_rfl) (by kernel_rfl) (by kernel_rfl) (fun _ _ _ h => h) (Or.inr ⟨by rfl, rfl⟩) trivial ?_
                  simp only [Act.put, List.setIfInBounds_toArray, List.set_cons_zero, List.set_cons_succ]
                  refine wpAnyH_take (i := 6) (v := undef) (lit rfl) (by kernel_rfl) (by kernel_rfl) (by kernel_rfl) (fun _ _ _ h => h) (Or.inr ⟨by rfl, rfl⟩) trivial ?_
                  simp only [Act.put, List.setIfInBounds_toArray, List.set_cons_zero, List.set_cons_succ]
                  refine wpAnyH_take (i := 7) (v := undef) (lit rfl) (by kernel_rfl) (by kernel_rfl) (by kernel_rfl) (fun _ _ _ h => h) (Or.inr ⟨by rfl, rfl⟩) trivial ?_
                  simp only [Act.put, List.setIfInBounds_toArray, List.set_cons_zero, List.set_cons_succ]
                  refine wpAnyH_take (i := 8) (v := undef) (lit rfl) (by kernel_rfl) (by kernel_rfl) (by kernel_rfl) (fun _ _ _ h => h) (Or.inr ⟨by rfl, rfl⟩) trivial ?_
                  simp only [Act.put, List.setIfInBounds_toArray, List.set_cons_zero, List.set_cons_succ]
                  refine wpAnyH_take (i := 9) (v := undef) (lit rfl) (by kernel_rfl) (by kernel_rfl) (by kernel_rfl) (fun _ _ _ h => h) (Or.inr ⟨by rfl, rfl⟩) trivial ?_
                  simp only [Act.put, List.setIfInBounds_toArray, List.set_cons_zero, List.set_cons_succ]
                  refine wpAnyH_take (i := 10) (v := undef) (lit rfl) (by kernel_rfl) (by kernel_rfl) (by kernel_rfl) (fun _ _ _ h => h) (Or.inr ⟨by rfl, rfl⟩) trivial ?_
                  simp only [Act.put, List.setIfInBounds_toArray, List.set_cons_zero, List.set_cons_succ]
                  refine wpAnyH_take (i := 11) (v := undef) (lit rfl) (by kernel_rfl) (by kernel_rfl) (by kernel_rfl) (fun _ _ _ h => h) (Or.inr ⟨by rfl, rfl⟩) trivial ?_
                  simp only [Act.put, List.setIfInBounds_toArray, List.set_cons_zero, List.set_cons_succ]
                  refine wpAnyH_take (i := 12) (v := undef) (lit rfl) (by kernel_rfl) (by kernel_rfl) (by kernel_rfl) (fun _ _ _ h => h) (Or.inr ⟨by rfl, rfl⟩) trivial ?_
                  simp only [Act.put, List.setIfInBounds_toArray, List.set_cons_zero, List.set_cons_succ]
                  refine wpAnyH_take (i := 13) (v := undef) (lit rfl) (by kernel_rfl) (by kernel_rfl) (by kernel_rfl) (fun _ _ _ h => h) (Or.inr ⟨by rfl, rfl⟩) trivial ?_
                  simp only [Act.put, List.setIfInBounds_toArray, List.set_cons_zero, List.set_cons_succ]
                  refine wpAnyH_take (i := 14) (v := .bool false) (lit rfl) (by kernel_rfl) (by kernel_rfl) (by kernel_rfl) (fun _ _ _ h => h) (Or.inl ⟨by rfl, ?_⟩) trivial ?_
                  · rintro w6 k1
                    go_simp
                  simp only [Act.put, List.setIfInBounds_toArray, List.set_cons_zero, List.set_cons_succ]
                  refine wpAnyH_done (by kernel_rfl) ?_ _
                  refine hK _ _ ?_
                  by_cases hlr : mid - a < b - mid
                  · have g9 : (ll : Int) < (rl : Int) := by omega
                    go_wp2_with (first
                      | (go_at_call 30; (with_reducible refine (HPT.out _ L1.out).mono ?_); rintro e w8 ⟨rfl, h9⟩; have T1 := Lib.hid h9; clear h9)
                      | (go_at_call 20; (with_reducible refine (IH.out a mid lim1 d4 _ T1.out (by omega) (by omega) (by omega) (by omega)).mono ?_); rintro e w8 ⟨rfl, h9⟩; have Q1 := Lib.hid h9; clear h9))
                    go_roundw
                    case rel => exact ⟨mid + 1, b, lim1, _, ap, _, by go_num, rfl, rfl, congrArg Value.bool (show decide (q8 ≤ ll) = decide (mid - a ≥ (b - a) / 8) from decide_eq_decide.2 (by omega)), rfl, by omega, by omega, by omega, Q1.out, by rw [← HTL.out, HTT.out, if_pos hlr], by omega⟩
                    case measure => simp [intOf]; omega
                  · have g9 : ¬ (ll : Int) < (rl : Int) := by omega
                    have IHR := Lib.hid (fun w h => IH.out (mid + 1) b lim1 d4 w h (by omega) (by omega) hbn (by omega))
                    rw [show ((mid + 1 : Nat) : Int) = (mid : Int) + 1 by omega] at IHR
                    go_wp2_with (first
                      | (go_at_call 30; (with_reducible refine (HPT.out _ L1.out).mono ?_); rintro e w8 ⟨rfl, h9⟩; have T1 := Lib.hid h9; clear h9)
                      | (go_at_call 20; (with_reducible refine (IHR.out _ T1.out).mono ?_); rintro e w8 ⟨rfl, h9⟩; have Q1 := Lib.hid h9; clear h9))
                    go_roundw
                    case rel => exact ⟨a, mid, lim1, _, ap, _, rfl, rfl, rfl, congrArg Value.bool (show decide (q8 ≤ rl) = decide (b - mid ≥ (b - a) / 8) from decide_eq_decide.2 (by omega)), rfl, by omega, by omega, by omega, Q1.out, by rw [← HTL.out, HTT.out, if_neg hlr], by omega⟩
                    case measure => simp [intOf]; omega
            case decreasing =>
              simp only [hintU] at hcp
              have HCP := Lib.hid hcp
              clear hcp
              obtain ⟨d2, hd2⟩ : ∃ d2, reverseRange d1 a b = d2 := ⟨_, rfl⟩
              obtain ⟨p, hp⟩ : ∃ p, (b - 1) - (p0 - a) = p := ⟨_, rfl⟩
              have hp3 : (b : Int) - 1 - ((p0 : Int) - (a : Int)) = (p : Int) := by omega
              have hp1 : a ≤ p := by omega
              have hp2 : p < b := by omega
              have HRR := Lib.hid (fun w h => hd2 ▸ revU_any (g := g) (off := off) c a b d1 W0 w h (by omega) (by omega) hbn)
              have HTL : Hid (pdqUTail d2 a b lim1 p false wp = pdq ltU d a0 b0 lim0 true true) := Lib.hid (by rw [← K4.out, HU.out] ; unfold pdqUC; rw [← hd2, ← hp]; rfl)
              clear hd2 hp
              go_wp2_with (first
                | (go_at_call 24; (with_reducible refine (HBP.out _ K1.out).mono ?_); rintro e w8 ⟨rfl, h9⟩; have B1 := Lib.hid h9; clear h9)
                | (go_at_call 25; (with_reducible refine (HCP.out _ B1.out).mono ?_); rintro e w8 ⟨rfl, h9⟩; have C1 := Lib.hid h9; clear h9)
                | (go_at_call 26; (with_reducible refine (HRR.out _ C1.out).mono ?_); rintro e w8 ⟨rfl, h9⟩; have R1 := Lib.hid h9; clear h9))
              have HDS := Lib.hid R1.out.size
              as_aux_lemma =>
                by_cases ha0 : 0 < a
                · have ga0 : (0 : Int) < (a : Int) := by omega
                  obtain ⟨a1, ha1⟩ : ∃ a1, a - 1 = a1 := ⟨_, rfl⟩
                  have haI : (a : Int) - 1 = (a1 : Int) := by omega
                  have hwa : IntKind.i64.wrap (a1 : Int) = (a1 : Int) := by rw [IntKind.wrap_i64]; omega
                  have L1 := Lib.hid R1.out.drew
                  have ca := R1.out.cell a1 (by omega)
                  have cb := R1.out.cell p (by omega)
                  obtain ⟨x, hx⟩ : ∃ x, d2[a1]! = x := ⟨_, rfl⟩
                  obtain ⟨y, hy⟩ : ∃ y, d2[p]! = y := ⟨_, rfl⟩
                  rw [hx] at ca
                  rw [hy] at cb
                  have bx0 : (0 : Int) ≤ (a1 : Int) := by omega
                  have bx1 : (a1 : Int) < (n : Int) := by omega
                  have by0 : (0 : Int) ≤ (p : Int) := by omega
                  have by1 : (p : Int) < (n : Int) := by omega
                  have hSd : (fun w' : World => w'.cell? ⟨g, off + a1, none⟩ = some (.int .u64 (x : Int)) ∧ w'.cell? ⟨g, off + p, none⟩ = some (.int .u64 (y : Int))) _ := ⟨ca, cb⟩
                  cases hv : ltU x y
                  · have HL := Lib.hid hv
                    have HV : Hid (ltU d2[a - 1]! d2[p]! = false) := Lib.hid (by rw [ha1, hx, hy]; exact hv)
                    have HPE := Lib.hid (fun w h => oPartEqU_any (g := g) (off := off) c a b p d2 W0 w h hp1 hp2 hbn)
                    have HTE := Lib.hid (fun h1 h2 => tailU_eq (b := b) (lim := lim1) (wb := false) (wp := wp) ha0 HV.out h1 h2)
                    clear hv hx hy ha1
                    generalize partitionEqual ltU d2 a b p = r at HPE HTE
                    obtain ⟨mid, d4⟩ := r
                    dsimp only at HPE HTE
                    go_wp2
                    rename_i K hK
                    refine wp_held (fun w' : World => w'.cell? ⟨g, off + a1, none⟩ = some (.int .u64 (x : Int)) ∧ w'.cell? ⟨g, off + p, none⟩ = some (.int .u64 (y : Int))) K hmx ?_ (fun _ _ h => h)
                    refine wpAnyH_take (i := 0) (v := .int .i64 (a : Int)) (lit rfl) (by kernel_rfl) (by kernel_rfl) (by kernel_rfl) (fun _ _ _ h => h) (Or.inl ⟨by rfl, ?_⟩) hSd ?_
                    · rintro w6 ⟨k1, k2⟩
                      go_simp
                    simp only [Act.put, List.setIfInBounds_toArray, List.set_cons_zero, List.set_cons_succ]
                    refine wpAnyH_take (i := 1) (v := .bool true) (lit rfl) (by kernel_rfl) (by kernel_rfl) (by kernel_rfl) (fun _ _ _ h => h) (Or.inl ⟨by rfl, ?_⟩) hSd ?_
                    · rintro w6 ⟨k1, k2⟩
                      go_simp
                    simp only [Act.put, List.setIfInBounds_toArray, List.set_cons_zero, List.set_cons_succ]
                    refine wpAnyH_take (i := 2) (v := .bool true) (lit rfl) (by kernel_rfl) (by kernel_rfl) (by kernel_rfl) (fun _ _ _ h => h) (Or.inl ⟨by rfl, ?_⟩) hSd ?_
                    · rintro w6 ⟨k1, k2⟩
                      go_simp
                    simp only [Act.put, List.setIfInBounds_toArray, List.set_cons_zero, List.set_cons_succ]
                    refine wpAnyH_take (i := 3) (v := .slice (some ⟨g, off, none⟩) n c) (lit rfl) (by kernel_rfl) (by kernel_rfl) (by kernel_rfl) (fun _ _ _ h => h) (Or.inl ⟨by rfl, ?_⟩) hSd ?_
                    · rintro w6 ⟨k1, k2⟩
                      go_simp
                    simp only [Act.put, List.setIfInBounds_toArray, List.set_cons_zero, List.set_cons_succ]
                    refine wpAnyH_take (i := 4) (v := .int .i64 (a : Int)) (lit rfl) (by kernel_rfl) (by kernel_rfl) (by kernel_rfl) (fun _ _ _ h => h) (Or.inl ⟨by rfl, ?_⟩) hSd ?_
                    · rintro w6 ⟨k1, k2⟩
                      go_simp
                    simp only [Act.put, List.setIfInBounds_toArray, List.set_cons_zero, List.set_cons_succ]
                    refine wpAnyH_take (i := 5) (v := .int .i64 (a1 : Int)) (lit rfl) (by kernel_rfl) (by kernel_rfl) (by kernel_rfl) (fun _ _ _ h => h) (Or.inl ⟨by rfl, ?_⟩) hSd ?_
                    · rintro w6 ⟨k1, k2⟩
                      go_simp
                    simp only [Act.put, List.setIfInBounds_toArray, List.set_cons_zero, List.set_cons_succ]
                    refine wpAnyH_take (i := 6) (v := .pointer (some ⟨g, off + a1, none⟩)) (lit rfl) (by kernel_rfl) (by kernel_rfl) (by kernel_rfl) (fun _ _ _ h => h) (Or.inl ⟨by rfl, ?_⟩) hSd ?_
                    · rintro w6 ⟨k1, k2⟩
                      go_simp
                    simp only [Act.put, List.setIfInBounds_toArray, List.set_cons_zero, List.set_cons_succ]
                    refine wpAnyH_take (i := 7) (v := .int .u64 (x : Int)) (lit rfl) (by kernel_rfl) (by kernel_rfl) (by kernel_rfl) (fun _ _ _ h => h) (Or.inl ⟨by rfl, ?_⟩) hSd ?_
                    · rintro w6 ⟨k1, k2⟩
                      go_simp
                    simp only [Act.put, List.setIfInBounds_toArray, List.set_cons_zero, List.set_cons_succ]
                    refine wpAnyH_take (i := 8) (v := .slice (some ⟨g, off, none⟩) n c) (lit rfl) (by kernel_rfl) (by kernel_rfl) (by kernel_rfl) (fun _ _ _ h => h) (Or.inl ⟨by rfl, ?_⟩) hSd ?_
                    · rintro w6 ⟨k1, k2⟩
                      go_simp
                    simp only [Act.put, List.setIfInBounds_toArray, List.set_cons_zero, List.set_cons_succ]
                    refine wpAnyH_take (i := 9) (v := .int .i64 (p : Int)) (lit rfl) (by kernel_rfl) (by kernel_rfl) (by kernel_rfl) (fun _ _ _ h => h) (Or.inl ⟨by rfl, ?_⟩) hSd ?_
                    · rintro w6 ⟨k1, k2⟩
                      go_simp
                    simp only [Act.put, List.setIfInBounds_toArray, List.set_cons_zero, List.set_cons_succ]
                    refine wpAnyH_take (i := 10) (v := .pointer (some ⟨g, off + p, none⟩)) (lit rfl) (by kernel_rfl) (by kernel_rfl) (by kernel_rfl) (fun _ _ _ h => h) (Or.inl ⟨by rfl, ?_⟩) hSd ?_
                    · rintro w6 ⟨k1, k2⟩
                      go_simp
                    simp only [Act.put, List.setIfInBounds_toArray, List.set_cons_zero, List.set_cons_succ]
                    refine wpAnyH_take (i := 11) (v := .int .u64 (y : Int)) (lit rfl) (by kernel_rfl) (by kernel_rfl) (by kernel_rfl) (fun _ _ _ h => h) (Or.inl ⟨by rfl, ?_⟩) hSd ?_
                    · rintro w6 ⟨k1, k2⟩
                      go_simp
                    simp only [Act.put, List.setIfInBounds_toArray, List.set_cons_zero, List.set_cons_succ]
                    refine wpAnyH_ready (rs := [12]) (by kernel_rfl) (by simp) ?_
                    refine AllReadyH.cons (lit rfl) (fun K5 hK5 => ?_) AllReadyH.nil
                    go_simp
                    go_at_call 28
                    (with_reducible refine (HLS.out _ _ _).mono ?_)
                    rintro e7 w7 ⟨rfl, rfl⟩
                    rw [HL.out]
                    refine hK5.out _ _ hSd (fun _ => ?_)
                    clear hK5 K5
                    refine wpAnyH_take (i := 13) (v := .bool true) (lit rfl) (by kernel_rfl) (by kernel_rfl) (by kernel_rfl) (fun _ _ _ h => h) (Or.inl ⟨by rfl, ?_⟩) hSd ?_
                    · rintro w6 ⟨k1, k2⟩
                      go_simp
                    simp only [Act.put, List.setIfInBounds_toArray, List.set_cons_zero, List.set_cons_succ]
                    refine wpAnyH_take (i := 14) (v := .bool true) (lit rfl) (by kernel_rfl) (by kernel_rfl) (by kernel_rfl) (fun _ _ _ h => h) (Or.inl ⟨by rfl, ?_⟩) hSd ?_
                    · rintro w6 ⟨k1, k2⟩
                      go_simp
                    simp only [Act.put, List.setIfInBounds_toArray, List.set_cons_zero, List.set_cons_succ]
                    refine wpAnyH_done (by kernel_rfl) ?_ _
                    refine hK _ _ ?_
                    clear ca cb hSd HL bx0 bx1 by0 by1 hwa haI
                    go_wp2_with (first
                      | (go_at_call 29; (with_reducible refine (HPE.out _ L1.out).mono ?_); rintro e w8 ⟨rfl, h9, ke1, ke2⟩; have E1 := Lib.hid h9; have KE := Lib.hid (And.intro ke1 ke2); clear ke1 ke2 h9))
                    have k1 := KE.out.1
                    have k2 := KE.out.2
                    go_roundw
                    case rel => exact ⟨mid, b, lim1, false, wp, _, rfl, rfl, rfl, rfl, rfl, by omega, by omega, by omega, E1.out, by rw [← HTL.out, HTE.out k1 k2], by omega⟩
                    case measure => simp [intOf]; omega
                  · have HL := Lib.hid hv
                    have HV : Hid (ltU d2[a - 1]! d2[p]! = true) := Lib.hid (by rw [ha1, hx, hy]; exact hv)
                    clear hv hx hy ha1
                    obtain ⟨r, hr⟩ : ∃ r, partition ltU d2 a b p = r := ⟨_, rfl⟩
                    obtain ⟨k1, k2, k3⟩ := partition_holds ltU swoU d2 a b p hp1 hp2 (by rw [HDS.out]; exact hbn)
                    have HPT := Lib.hid (fun w h => oPartU_any (g := g) (off := off) c a b p d2 W0 w h hp1 hp2 hbn)
                    rw [hr] at k1 k2 HPT
                    obtain ⟨mid, ap, d4⟩ := r
                    dsimp only at k1 k2 HPT
                    have HTT := Lib.hid (tailU_part (lim := lim1) (wb := false) (wp := wp) (Or.inr HV.out) hr k1 k2)
                    obtain ⟨ll, hll⟩ : ∃ ll : Nat, mid - a = ll := ⟨_, rfl⟩
                    obtain ⟨rl, hrl⟩ : ∃ rl : Nat, b - mid = rl := ⟨_, rfl⟩
                    have hll1 : (mid : Int) - (a : Int) = (ll : Int) := by omega
                    have hrl1 : (b : Int) - (mid : Int) = (rl : Int) := by omega
                    clear hr k3
                    go_wp2
                    rename_i K hK
                    refine wp_held (fun w' : World => w'.cell? ⟨g, off + a1, none⟩ = some (.int .u64 (x : Int)) ∧ w'.cell? ⟨g, off + p, none⟩ = some (.int .u64 (y : Int))) K hmx ?_ (fun _ _ h => h)
                    refine wpAnyH_take (i := 0) (v := .int .i64 (a : Int)) (lit rfl) (by kernel_rfl) (by kernel_rfl) (by kernel_rfl) (fun _ _ _ h => h) (Or.inl ⟨by rfl, ?_⟩) hSd ?_
                    · rintro w6 ⟨k1, k2⟩
                      go_simp
                    simp only [Act.put, List.setIfInBounds_toArray, List.set_cons_zero, List.set_cons_succ]
                    refine wpAnyH_take (i := 1) (v := .bool true) (lit rfl) (by kernel_rfl) (by kernel_rfl) (by kernel_rfl) (fun _ _ _ h => h) (Or.inl ⟨by rfl, ?_⟩) hSd ?_
                    · rintro w6 ⟨k1, k2⟩
                      go_simp
                    simp only [Act.put, List.setIfInBounds_toArray, List.set_cons_zero, List.set_cons_succ]
                    refine wpAnyH_take (i := 2) (v := .bool true) (lit rfl) (by kernel_rfl) (by kernel_rfl) (by kernel_rfl) (fun _ _ _ h => h) (Or.inl ⟨by rfl, ?_⟩) hSd ?_
                    · rintro w6 ⟨k1, k2⟩
                      go_simp
                    simp only [Act.put, List.setIfInBounds_toArray, List.set_cons_zero, List.set_cons_succ]
                    refine wpAnyH_take (i := 3) (v := .slice (some ⟨g, off, none⟩) n c) (lit rfl) (by kernel_rfl) (by kernel_rfl) (by kernel_rfl) (fun _ _ _ h => h) (Or.inl ⟨by rfl, ?_⟩) hSd ?_
                    · rintro w6 ⟨k1, k2⟩
                      go_simp
                    simp only [Act.put, List.setIfInBounds_toArray, List.set_cons_zero, List.set_cons_succ]
                    refine wpAnyH_take (i := 4) (v := .int .i64 (a : Int)) (lit rfl) (by kernel_rfl) (by kernel_rfl) (by kernel_rfl) (fun _ _ _ h => h) (Or.inl ⟨by rfl, ?_⟩) hSd ?_
                    · rintro w6 ⟨k1, k2⟩
                      go_simp
                    simp only [Act.put, List.setIfInBounds_toArray, List.set_cons_zero, List.set_cons_succ]
                    refine wpAnyH_take (i := 5) (v := .int .i64 (a1 : Int)) (lit rfl) (by kernel_rfl) (by kernel_rfl) (by kernel_rfl) (fun _ _ _ h => h) (Or.inl ⟨by rfl, ?_⟩) hSd ?_
                    · rintro w6 ⟨k1, k2⟩
                      go_simp
                    simp only [Act.put, List.setIfInBounds_toArray, List.set_cons_zero, List.set_cons_succ]
                    refine wpAnyH_take (i := 6) (v := .pointer (some ⟨g, off + a1, none⟩)) (lit rfl) (by kernel_rfl) (by kernel_rfl) (by kernel_rfl) (fun _ _ _ h => h) (Or.inl ⟨by rfl, ?_⟩) hSd ?_
                    · rintro w6 ⟨k1, k2⟩
                      go_simp
                    simp only [Act.put, List.setIfInBounds_toArray, List.set_cons_zero, List.set_cons_succ]
                    refine wpAnyH_take (i := 7) (v := .int .u64 (x : Int)) (lit rfl) (by kernel_rfl) (by kernel_rfl) (by kernel_rfl) (fun _ _ _ h => h) (Or.inl ⟨by rfl, ?_⟩) hSd ?_
                    · rintro w6 ⟨k1, k2⟩
                      go_simp
                    simp only [Act.put, List.setIfInBounds_toArray, List.set_cons_zero, List.set_cons_succ]
                    refine wpAnyH_take (i := 8) (v := .slice (some ⟨g, off, none⟩) n c) (lit rfl) (by kernel_rfl) (by kernel_rfl) (by kernel_rfl) (fun _ _ _ h => h) (Or.inl ⟨by rfl, ?_⟩) hSd ?_
                    · rintro w6 ⟨k1, k2⟩
                      go_simp
                    simp only [Act.put, List.setIfInBounds_toArray, List.set_cons_zero, List.set_cons_succ]
                    refine wpAnyH_take (i := 9) (v := .int .i64 (p : Int)) (lit rfl) (by kernel_rfl) (by kernel_rfl) (by kernel_rfl) (fun _ _ _ h => h) (Or.inl ⟨by rfl, ?_⟩) hSd ?_
                    · rintro w6 ⟨k1, k2⟩
                      go_simp
                    simp only [Act.put, List.setIfInBounds_toArray, List.set_cons_zero, List.set_cons_succ]
                    refine wpAnyH_take (i := 10) (v := .pointer (some ⟨g, off + p, none⟩)) (lit rfl) (by kernel_rfl) (by kernel_rfl) (by kernel_rfl) (fun _ _ _ h => h) (Or.inl ⟨by rfl, ?_⟩) hSd ?_
                    · rintro w6 ⟨k1, k2⟩
                      go_simp
                    simp only [Act.put, List.setIfInBounds_toArray, List.set_cons_zero, List.set_cons_succ]
                    refine wpAnyH_take (i := 11) (v := .int .u64 (y : Int)) (lit rfl) (by kernel_rfl) (by kernel_rfl) (by kernel_rfl) (fun _ _ _ h => h) (Or.inl ⟨by rfl, ?_⟩) hSd ?_
                    · rintro w6 ⟨k1, k2⟩
                      go_simp
                    simp only [Act.put, List.setIfInBounds_toArray, List.set_cons_zero, List.set_cons_succ]
                    refine wpAnyH_ready (rs := [12]) (by kernel_rfl) (by simp) ?_
                    refine AllReadyH.cons (lit rfl) (fun K5 hK5 => ?_) AllReadyH.nil
                    go_simp
                    go_at_call 28
                    (with_reducible refine (HLS.out _ _ _).mono ?_)
                    rintro e7 w7 ⟨rfl, rfl⟩
                    rw [HL.out]
                    refine hK5.out _ _ hSd (fun _ => ?_)
                    clear hK5 K5
                    refine wpAnyH_take (i := 13) (v := .bool false) (lit rfl) (by kernel_rfl) (by kernel_rfl) (by kernel_rfl) (fun _ _ _ h => h) (Or.inl ⟨by rfl, ?_⟩) hSd ?_
                    · rintro w6 ⟨k1, k2⟩
                      go_simp
                    simp only [Act.put, List.setIfInBounds_toArray, List.set_cons_zero, List.set_cons_succ]
                    refine wpAnyH_take (i := 14) (v := .bool false) (lit rfl) (by kernel_rfl) (by kernel_rfl) (by kernel_rfl) (fun _ _ _ h => h) (Or.inl ⟨by rfl, ?_⟩) hSd ?_
                    · rintro w6 ⟨k1, k2⟩
                      go_simp
                    simp only [Act.put, List.setIfInBounds_toArray, List.set_cons_zero, List.set_cons_succ]
                    refine wpAnyH_done (by kernel_rfl) ?_ _
                    refine hK _ _ ?_
                    clear ca cb hSd HL bx0 bx1 by0 by1 hwa haI
                    by_cases hlr : mid - a < b - mid
                    · have g9 : (ll : Int) < (rl : Int) := by omega
                      go_wp2_with (first
                        | (go_at_call 30; (with_reducible refine (HPT.out _ L1.out).mono ?_); rintro e w8 ⟨rfl, h9⟩; have T1 := Lib.hid h9; clear h9)
                        | (go_at_call 20; (with_reducible refine (IH.out a mid lim1 d4 _ T1.out (by omega) (by omega) (by omega) (by omega)).mono ?_); rintro e w8 ⟨rfl, h9⟩; have Q1 := Lib.hid h9; clear h9))
                      go_roundw
                      case rel => exact ⟨mid + 1, b, lim1, _, ap, _, by go_num, rfl, rfl, congrArg Value.bool (show decide (q8 ≤ ll) = decide (mid - a ≥ (b - a) / 8) from decide_eq_decide.2 (by omega)), rfl, by omega, by omega, by omega, Q1.out, by rw [← HTL.out, HTT.out, if_pos hlr], by omega⟩
                      case measure => simp [intOf]; omega
                    · have g9 : ¬ (ll : Int) < (rl : Int) := by omega
                      have IHR := Lib.hid (fun w h => IH.out (mid + 1) b lim1 d4 w h (by omega) (by omega) hbn (by omega))
                      rw [show ((mid + 1 : Nat) : Int) = (mid : Int) + 1 by omega] at IHR
                      go_wp2_with (first
                        | (go_at_call 30; (with_reducible refine (HPT.out _ L1.out).mono ?_); rintro e w8 ⟨rfl, h9⟩; have T1 := Lib.hid h9; clear h9)
                        | (go_at_call 20; (with_reducible refine (IHR.out _ T1.out).mono ?_); rintro e w8 ⟨rfl, h9⟩; have Q1 := Lib.hid h9; clear h9))
                      go_roundw
                      case rel => exact ⟨a, mid, lim1, _, ap, _, rfl, rfl, rfl, congrArg Value.bool (show decide (q8 ≤ rl) = decide (b - mid ≥ (b - a) / 8) from decide_eq_decide.2 (by omega)), rfl, by omega, by omega, by omega, Q1.out, by rw [← HTL.out, HTT.out, if_neg hlr], by omega⟩
                      case measure => simp [intOf]; omega
                · have ga0 : ¬ (0 : Int) < (a : Int) := by omega
                  have L1 := Lib.hid R1.out.drew
                  obtain ⟨r, hr⟩ : ∃ r, partition ltU d2 a b p = r := ⟨_, rfl⟩
                  obtain ⟨k1, k2, k3⟩ := partition_holds ltU swoU d2 a b p hp1 hp2 (by rw [HDS.out]; exact hbn)
                  have HPT := Lib.hid (fun w h => oPartU_any (g := g) (off := off) c a b p d2 W0 w h hp1 hp2 hbn)
                  rw [hr] at k1 k2 HPT
                  obtain ⟨mid, ap, d4⟩ := r
                  dsimp only at k1 k2 HPT
                  have HTT := Lib.hid (tailU_part (lim := lim1) (wb := false) (wp := wp) (Or.inl ha0) hr k1 k2)
                  obtain ⟨ll, hll⟩ : ∃ ll : Nat, mid - a = ll := ⟨_, rfl⟩
                  obtain ⟨rl, hrl⟩ : ∃ rl : Nat, b - mid = rl := ⟨_, rfl⟩
                  have hll1 : (mid : Int) - (a : Int) = (ll : Int) := by omega
                  have hrl1 : (b : Int) - (mid : Int) = (rl : Int) := by omega
                  clear hr k3
                  go_wp2
                  rename_i K hK
                  refine wp_held (fun _ : World => True) K hmx ?_ (fun _ _ h => h)
                  refine wpAnyH_take (i := 0) (v := .int .i64 (a : Int)) (lit rfl) (by kernel_rfl) (by kernel_rfl) (by kernel_rfl) (fun _ _ _ h => h) (Or.inl ⟨by rfl, ?_⟩) trivial ?_
                  · rintro w6 k1
                    go_simp
                  simp only [Act.put, List.setIfInBounds_toArray, List.set_cons_zero, List.set_cons_succ]
                  refine wpAnyH_take (i := 1) (v := .bool false) (lit rfl) (by kernel_rfl) (by kernel_rfl) (by kernel_rfl) (fun _ _ _ h => h) (Or.inl ⟨by rfl, ?_⟩) trivial ?_
                  · rintro w6 k1
                    go_simp
                  simp only [Act.put, List.setIfInBounds_toArray, List.set_cons_zero, List.set_cons_succ]
                  refine wpAnyH_take (i := 2) (v := .bool false) (lit rfl) (by kernel_rfl) (by kernel_rfl) (by kernel_rfl) (fun _ _ _ h => h) (Or.inl ⟨by rfl, ?_⟩) trivial ?_
                  · rintro w6 k1
                    go_simp
                  simp only [Act.put, List.setIfInBounds_toArray, List.set_cons_zero, List.set_cons_succ]
                  refine wpAnyH_take (i := 3) (v := undef) (lit rfl) (by kernel_rfl) (by kernel_rfl) (by kernel_rfl) (fun _ _ _ h => h) (Or.inr ⟨by rfl, rfl⟩) trivial ?_
                  simp only [Act.put, List.setIfInBounds_toArray, List.set_cons_zero, List.set_cons_succ]
                  refine wpAnyH_take (i := 4) (v := undef) (lit rfl) (by kernel_rfl) (by kernel_rfl) (by kernel_rfl) (fun _ _ _ h => h) (Or.inr ⟨by rfl, rfl⟩) trivial ?_
                  simp only [Act.put, List.setIfInBounds_toArray, List.set_cons_zero, List.set_cons_succ]
                  refine wpAnyH_take (i := 5) (v := undef) (lit rfl) (by kernel_rfl) (by kernel_rfl) (by kernel_rfl) (fun _ _ _ h => h) (Or.inr ⟨by rfl, rfl⟩) trivial ?_
                  simp only [Act.put, List.setIfInBounds_toArray, List.set_cons_zero, List.set_cons_succ]
                  refine wpAnyH_take (i := 6) (v := undef) (lit rfl) (by kernel_rfl) (by kernel_rfl) (by kernel_rfl) (fun _ _ _ h => h) (Or.inr ⟨by rfl, rfl⟩) trivial ?_
                  simp only [Act.put, List.setIfInBounds_toArray, List.set_cons_zero, List.set_cons_succ]
                  refine wpAnyH_take (i := 7) (v := undef) (lit rfl) (by kernel_rfl) (by kernel_rfl) (by kernel_rfl) (fun _ _ _ h => h) (Or.inr ⟨by rfl, rfl⟩) trivial ?_
                  simp only [Act.put, List.setIfInBounds_toArray, List.set_cons_zero, List.set_cons_succ]
                  refine wpAnyH_take (i := 8) (v := undef) (lit rfl) (by kernel_rfl) (by kernel_rfl) (by kernel_rfl) (fun _ _ _ h => h) (Or.inr ⟨by rfl, rfl⟩) trivial ?_
                  simp only [Act.put, List.setIfInBounds_toArray, List.set_cons_zero, List.set_cons_succ]
                  refine wpAnyH_take (i := 9) (v := undef) (lit rfl) (by kernel_rfl) (by kernel_rfl) (by kernel_rfl) (fun _ _ _ h => h) (Or.inr ⟨by rfl, rfl⟩) trivial ?_
                  simp only [Act.put, List.setIfInBounds_toArray, List.set_cons_zero, List.set_cons_succ]
                  refine wpAnyH_take (i := 10) (v := undef) (lit rfl) (by kernel_rfl) (by kernel_rfl) (by kernel_rfl) (fun _ _ _ h => h) (Or.inr ⟨by rfl, rfl⟩) trivial ?_
                  simp only [Act.put, List.setIfInBounds_toArray, List.set_cons_zero, List.set_cons_succ]
                  refine wpAnyH_take (i := 11) (v := undef) (lit rfl) (by kernel_rfl) (by kernel_rfl) (by kernel_rfl) (fun _ _ _ h => h) (Or.inr ⟨by rfl, rfl⟩) trivial ?_
                  simp only [Act.put, List.setIfInBounds_toArray, List.set_cons_zero, List.set_cons_succ]
                  refine wpAnyH_take (i := 12) (v := undef) (lit rfl) (by kernel_rfl) (by kernel_rfl) (by kernel_rfl) (fun _ _ _ h => h) (Or.inr ⟨by rfl, rfl⟩) trivial ?_
                  simp only [Act.put, List.setIfInBounds_toArray, List.set_cons_zero, List.set_cons_succ]
                  refine wpAnyH_take (i := 13) (v := undef) (lit rfl) (by kernel_rfl) (by kernel_rfl) (by kernel_rfl) (fun _ _ _ h => h) (Or.inr ⟨by rfl, rfl⟩) trivial ?_
                  simp only [Act.put, List.setIfInBounds_toArray, List.set_cons_zero, List.set_cons_succ]
                  refine wpAnyH_take (i := 14) (v := .bool false) (lit rfl) (by kernel_rfl) (by kernel_rfl) (by kernel_rfl) (fun _ _ _ h => h) (Or.inl ⟨by rfl, ?_⟩) trivial ?_
                  · rintro w6 k1
                    go_simp
                  simp only [Act.put, List.setIfInBounds_toArray, List.set_cons_zero, List.set_cons_succ]
                  refine wpAnyH_done (by kernel_rfl) ?_ _
                  refine hK _ _ ?_
                  by_cases hlr : mid - a < b - mid
                  · have g9 : (ll : Int) < (rl : Int) := by omega
                    go_wp2_with (first
                      | (go_at_call 30; (with_reducible refine (HPT.out _ L1.out).mono ?_); rintro e w8 ⟨rfl, h9⟩; have T1 := Lib.hid h9; clear h9)
                      | (go_at_call 20; (with_reducible refine (IH.out a mid lim1 d4 _ T1.out (by omega) (by omega) (by omega) (by omega)).mono ?_); rintro e w8 ⟨rfl, h9⟩; have Q1 := Lib.hid h9; clear h9))
                    go_roundw
                    case rel => exact ⟨mid + 1, b, lim1, _, ap, _, by go_num, rfl, rfl, congrArg Value.bool (show decide (q8 ≤ ll) = decide (mid - a ≥ (b - a) / 8) from decide_eq_decide.2 (by omega)), rfl, by omega, by omega, by omega, Q1.out, by rw [← HTL.out, HTT.out, if_pos hlr], by omega⟩
                    case measure => simp [intOf]; omega
                  · have g9 : ¬ (ll : Int) < (rl : Int) := by omega
                    have IHR := Lib.hid (fun w h => IH.out (mid + 1) b lim1 d4 w h (by omega) (by omega) hbn (by omega))
                    rw [show ((mid + 1 : Nat) : Int) = (mid : Int) + 1 by omega] at IHR
                    go_wp2_with (first
                      | (go_at_call 30; (with_reducible refine (HPT.out _ L1.out).mono ?_); rintro e w8 ⟨rfl, h9⟩; have T1 := Lib.hid h9; clear h9)
                      | (go_at_call 20; (with_reducible refine (IHR.out _ T1.out).mono ?_); rintro e w8 ⟨rfl, h9⟩; have Q1 := Lib.hid h9; clear h9))
                    go_roundw
                    case rel => exact ⟨a, mid, lim1, _, ap, _, rfl, rfl, rfl, congrArg Value.bool (show decide (q8 ≤ rl) = decide (b - mid ≥ (b - a) / 8) from decide_eq_decide.2 (by omega)), rfl, by omega, by omega, by omega, Q1.out, by rw [← HTL.out, HTT.out, if_neg hlr], by omega⟩
                    case measure => simp [intOf]; omega
          case true =>
            have HU : Hid (pdq ltU dk a b lim true wp = pdqUC (choosePivot ltU dk a b) dk a b lim true wp) := Lib.hid HU.out
            cases wp
            case false =>
              have hch := choosePivot_holds ltU dk a b (by omega)
              have hcp := fun w h => oPivotU_any (g := g) (off := off) c a b dk W0 w h (by omega) hbn
              obtain ⟨r, hr⟩ : ∃ r, choosePivot ltU dk a b = r := ⟨_, rfl⟩
              rw [hr] at hch hcp HU
              obtain ⟨p0, hh⟩ := r
              dsimp only at hch hcp
              clear hr
              cases hh
              case unknown =>
                simp only [hintU] at hcp
                have HCP := Lib.hid hcp
                clear hcp
                have hp1 := hch.1
                have hp2 := hch.2
                have HTL : Hid (pdqUTail dk a b lim p0 true false = pdq ltU d a0 b0 lim0 true true) := Lib.hid (by rw [← K4.out, HU.out]; rfl)
                go_wp2_with (first
                  | (go_at_call 25; (with_reducible refine (HCP.out _ K1.out).mono ?_); rintro e w8 ⟨rfl, h9⟩; have C1 := Lib.hid h9; clear h9))
                have HDS := Lib.hid C1.out.size
                as_aux_lemma =>
                  by_cases ha0 : 0 < a
                  · have ga0 : (0 : Int) < (a : Int) := by omega
                    obtain ⟨a1, ha1⟩ : ∃ a1, a - 1 = a1 := ⟨_, rfl⟩
                    have haI : (a : Int) - 1 = (a1 : Int) := by omega
                    have hwa : IntKind.i64.wrap (a1 : Int) = (a1 : Int) := by rw [IntKind.wrap_i64]; omega
                    have L1 := Lib.hid C1.out.drew
                    have ca := C1.out.cell a1 (by omega)
                    have cb := C1.out.cell p0 (by omega)
                    obtain ⟨x, hx⟩ : ∃ x, dk[a1]! = x := ⟨_, rfl⟩
                    obtain ⟨y, hy⟩ : ∃ y, dk[p0]! = y := ⟨_, rfl⟩
                    rw [hx] at ca
                    rw [hy] at cb
                    have bx0 : (0 : Int) ≤ (a1 : Int) := by omega
                    have bx1 : (a1 : Int) < (n : Int) := by omega
                    have by0 : (0 : Int) ≤ (p0 : Int) := by omega
                    have by1 : (p0 : Int) < (n : Int) := by omega
                    have hSd : (fun w' : World => w'.cell? ⟨g, off + a1, none⟩ = some (.int .u64 (x : Int)) ∧ w'.cell? ⟨g, off + p0, none⟩ = some (.int .u64 (y : Int))) _ := ⟨ca, cb⟩
                    cases hv : ltU x y
                    · have HL := Lib.hid hv
                      have HV : Hid (ltU dk[a - 1]! dk[p0]! = false) := Lib.hid (by rw [ha1, hx, hy]; exact hv)
                      have HPE := Lib.hid (fun w h => oPartEqU_any (g := g) (off := off) c a b p0 dk W0 w h hp1 hp2 hbn)
                      have HTE := Lib.hid (fun h1 h2 => tailU_eq (b := b) (lim := lim) (wb := true) (wp := false) ha0 HV.out h1 h2)
                      clear hv hx hy ha1
                      generalize partitionEqual ltU dk a b p0 = r at HPE HTE
                      obtain ⟨mid, d4⟩ := r
                      dsimp only at HPE HTE
                      go_wp2
                      rename_i K hK
                      refine wp_held (fun w' : World => w'.cell? ⟨g, off + a1, none⟩ = some (.int .u64 (x : Int)) ∧ w'.cell? ⟨g, off + p0, none⟩ = some (.int .u64 (y : Int))) K hmx ?_ (fun _ _ h => h)
                      refine wpAnyH_take (i := 0) (v := .int .i64 (a : Int)) (lit rfl) (by kernel_rfl) (by kernel_rfl) (by kernel_rfl) (fun _ _ _ h => h) (Or.inl ⟨by rfl, ?_⟩) hSd ?_
                      · rintro w6 ⟨k1, k2⟩
                        go_simp
                      simp only [Act.put, List.setIfInBounds_toArray, List.set_cons_zero, List.set_cons_succ]
                      refine wpAnyH_take (i := 1) (v := .bool true) (lit rfl) (by kernel_rfl) (by kernel_rfl) (by kernel_rfl) (fun _ _ _ h => h) (Or.inl ⟨by rfl, ?_⟩) hSd ?_
                      · rintro w6 ⟨k1, k2⟩
                        go_simp
                      simp only [Act.put, List.setIfInBounds_toArray, List.set_cons_zero, List.set_cons_succ]
                      refine wpAnyH_take (i := 2) (v := .bool true) (lit rfl) (by kernel_rfl) (by kernel_rfl) (by kernel_rfl) (fun _ _ _ h => h) (Or.inl ⟨by rfl, ?_⟩) hSd ?_
                      · rintro w6 ⟨k1, k2⟩
                        go_simp
                      simp only [Act.put, List.setIfInBounds_toArray, List.set_cons_zero, List.set_cons_succ]
                      refine wpAnyH_take (i := 3) (v := .slice (some ⟨g, off, none⟩) n c) (lit rfl) (by kernel_rfl) (by kernel_rfl) (by kernel_rfl) (fun _ _ _ h => h) (Or.inl ⟨by rfl, ?_⟩) hSd ?_
                      · rintro w6 ⟨k1, k2⟩
                        go_simp
                      simp only [Act.put, List.setIfInBounds_toArray, List.set_cons_zero, List.set_cons_succ]
                      refine wpAnyH_take (i := 4) (v := .int .i64 (a : Int)) (lit rfl) (by kernel_rfl) (by kernel_rfl) (by kernel_rfl) (fun _ _ _ h => h) (Or.inl ⟨by rfl, ?_⟩) hSd ?_
                      · rintro w6 ⟨k1, k2⟩
                        go_simp
                      simp only [Act.put, List.setIfInBounds_toArray, List.set_cons_zero, List.set_cons_succ]
                      refine wpAnyH_take (i := 5) (v := .int .i64 (a1 : Int)) (lit rfl) (by kernel_rfl) (by kernel_rfl) (by kernel_rfl) (fun _ _ _ h => h) (Or.inl ⟨by rfl, ?_⟩) hSd ?_
                      · rintro w6 ⟨k1, k2⟩
                        go_simp
                      simp only [Act.put, List.setIfInBounds_toArray, List.set_cons_zero, List.set_cons_succ]
                      refine wpAnyH_take (i := 6) (v := .pointer (some ⟨g, off + a1, none⟩)) (lit rfl) (by kernel_rfl) (by kernel_rfl) (by kernel_rfl) (fun _ _ _ h => h) (Or.inl ⟨by rfl, ?_⟩) hSd ?_
                      · rintro w6 ⟨k1, k2⟩
                        go_simp
                      simp only [Act.put, List.setIfInBounds_toArray, List.set_cons_zero, List.set_cons_succ]
                      refine wpAnyH_take (i := 7) (v := .int .u64 (x : Int)) (lit rfl) (by kernel_rfl) (by kernel_rfl) (by kernel_rfl) (fun _ _ _ h => h) (Or.inl ⟨by rfl, ?_⟩) hSd ?_
                      · rintro w6 ⟨k1, k2⟩
                        go_simp
                      simp only [Act.put, List.setIfInBounds_toArray, List.set_cons_zero, List.set_cons_succ]
                      refine wpAnyH_take (i := 8) (v := .slice (some ⟨g, off, none⟩) n c) (lit rfl) (by kernel_rfl) (by kernel_rfl) (by kernel_rfl) (fun _ _ _ h => h) (Or.inl ⟨by rfl, ?_⟩) hSd ?_
                      · rintro w6 ⟨k1, k2⟩
                        go_simp
                      simp only [Act.put, List.setIfInBounds_toArray, List.set_cons_zero, List.set_cons_succ]
                      refine wpAnyH_take (i := 9) (v := .int .i64 (p0 : Int)) (lit rfl) (by kernel_rfl) (by kernel_rfl) (by kernel_rfl) (fun _ _ _ h => h) (Or.inl ⟨by rfl, ?_⟩) hSd ?_
                      · rintro w6 ⟨k1, k2⟩
                        go_simp
                      simp only [Act.put, List.setIfInBounds_toArray, List.set_cons_zero, List.set_cons_succ]
                      refine wpAnyH_take (i := 10) (v := .pointer (some ⟨g, off + p0, none⟩)) (lit rfl) (by kernel_rfl) (by kernel_rfl) (by kernel_rfl) (fun _ _ _ h => h) (Or.inl ⟨by rfl, ?_⟩) hSd ?_
                      · rintro w6 ⟨k1, k2⟩
                        go_simp
                      simp only [Act.put, List.setIfInBounds_toArray, List.set_cons_zero, List.set_cons_succ]
                      refine wpAnyH_take (i := 11) (v := .int .u64 (y : Int)) (lit rfl) (by kernel_rfl) (by kernel_rfl) (by kernel_rfl) (fun _ _ _ h => h) (Or.inl ⟨by rfl, ?_⟩) hSd ?_
                      · rintro w6 ⟨k1, k2⟩
                        go_simp
                      simp only [Act.put, List.setIfInBounds_toArray, List.set_cons_zero, List.set_cons_succ]
                      refine wpAnyH_ready (rs := [12]) (by kernel_rfl) (by simp) ?_
                      refine AllReadyH.cons (lit rfl) (fun K5 hK5 => ?_) AllReadyH.nil
                      go_simp
                      go_at_call 28
                      (with_reducible refine (HLS.out _ _ _).mono ?_)
                      rintro e7 w7 ⟨rfl, rfl⟩
                      rw [HL.out]
                      refine hK5.out _ _ hSd (fun _ => ?_)
                      clear hK5 K5
                      refine wpAnyH_take (i := 13) (v := .bool true) (lit rfl) (by kernel_rfl) (by kernel_rfl) (by kernel_rfl) (fun _ _ _ h => h) (Or.inl ⟨by rfl, ?_⟩) hSd ?_
                      · rintro w6 ⟨k1, k2⟩
                        go_simp
                      simp only [Act.put, List.setIfInBounds_toArray, List.set_cons_zero, List.set_cons_succ]
                      refine wpAnyH_take (i := 14) (v := .bool true) (lit rfl) (by kernel_rfl) (by kernel_rfl) (by kernel_rfl) (fun _ _ _ h => h) (Or.inl ⟨by rfl, ?_⟩) hSd ?_
                      · rintro w6 ⟨k1, k2⟩
                        go_simp
                      simp only [Act.put, List.setIfInBounds_toArray, List.set_cons_zero, List.set_cons_succ]
                      refine wpAnyH_done (by kernel_rfl) ?_ _
                      refine hK _ _ ?_
                      clear ca cb hSd HL bx0 bx1 by0 by1 hwa haI
                      go_wp2_with (first
                        | (go_at_call 29; (with_reducible refine (HPE.out _ L1.out).mono ?_); rintro e w8 ⟨rfl, h9, ke1, ke2⟩; have E1 := Lib.hid h9; have KE := Lib.hid (And.intro ke1 ke2); clear ke1 ke2 h9))
                      have k1 := KE.out.1
                      have k2 := KE.out.2
                      go_roundw
                      case rel => exact ⟨mid, b, lim, true, false, _, rfl, rfl, rfl, rfl, rfl, by omega, by omega, by omega, E1.out, by rw [← HTL.out, HTE.out k1 k2], by omega⟩
                      case measure => simp [intOf]; omega
                    · have HL := Lib.hid hv
                      have HV : Hid (ltU dk[a - 1]! dk[p0]! = true) := Lib.hid (by rw [ha1, hx, hy]; exact hv)
                      clear hv hx hy ha1
                      obtain ⟨r, hr⟩ : ∃ r, partition ltU dk a b p0 = r := ⟨_, rfl⟩
                      obtain ⟨k1, k2, k3⟩ := partition_holds ltU swoU dk a b p0 hp1 hp2 (by rw [HDS.out]; exact hbn)
                      have HPT := Lib.hid (fun w h => oPartU_any (g := g) (off := off) c a b p0 dk W0 w h hp1 hp2 hbn)
                      rw [hr] at k1 k2 HPT
                      obtain ⟨mid, ap, d4⟩ := r
                      dsimp only at k1 k2 HPT
                      have HTT := Lib.hid (tailU_part (lim := lim) (wb := true) (wp := false) (Or.inr HV.out) hr k1 k2)
                      obtain ⟨ll, hll⟩ : ∃ ll : Nat, mid - a = ll := ⟨_, rfl⟩
                      obtain ⟨rl, hrl⟩ : ∃ rl : Nat, b - mid = rl := ⟨_, rfl⟩
                      have hll1 : (mid : Int) - (a : Int) = (ll : Int) := by omega
                      have hrl1 : (b : Int) - (mid : Int) = (rl : Int) := by omega
                      clear hr k3
                      go_wp2
                      rename_i K hK
                      refine wp_held (fun w' : World => w'.cell? ⟨g, off + a1, none⟩ = some (.int .u64 (x : Int)) ∧ w'.cell? ⟨g, off + p0, none⟩ = some (.int .u64 (y : Int))) K hmx ?_ (fun _ _ h => h)
                      refine wpAnyH_take (i := 0) (v := .int .i64 (a : Int)) (lit rfl) (by kernel_rfl) (by kernel_rfl) (by kernel_rfl) (fun _ _ _ h => h) (Or.inl ⟨by rfl, ?_⟩) hSd ?_
                      · rintro w6 ⟨k1, k2⟩
                        go_simp
                      simp only [Act.put, List.setIfInBounds_toArray, List.set_cons_zero, List.set_cons_succ]
                      refine wpAnyH_take (i := 1) (v := .bool true) (lit rfl) (by kernel_rfl) (by kernel_rfl) (by kernel_rfl) (fun _ _ _ h => h) (Or.inl ⟨by rfl, ?_⟩) hSd ?_
                      · rintro w6 ⟨k1, k2⟩
                        go_simp
                      simp only [Act.put, List.setIfInBounds_toArray, List.set_cons_zero, List.set_cons_succ]
                      refine wpAnyH_take (i := 2) (v := .bool true) (lit rfl) (by kernel_rfl) (by kernel_rfl) (by kernel_rfl) (fun _ _ _ h => h) (Or.inl ⟨by rfl, ?_⟩) hSd ?_
                      · rintro w6 ⟨k1, k2⟩
                        go_simp
                      simp only [Act.put, List.setIfInBounds_toArray, List.set_cons_zero, List.set_cons_succ]
                      refine wpAnyH_take (i := 3) (v := .slice (some ⟨g, off, none⟩) n c) (lit rfl) (by kernel_rfl) (by kernel_rfl) (by kernel_rfl) (fun _ _ _ h => h) (Or.inl ⟨by rfl, ?_⟩) hSd ?_
                      · rintro w6 ⟨k1, k2⟩
                        go_simp
                      simp only [Act.put, List.setIfInBounds_toArray, List.set_cons_zero, List.set_cons_succ]
                      refine wpAnyH_take (i := 4) (v := .int .i64 (a : Int)) (lit rfl) (by kernel_rfl) (by kernel_rfl) (by kernel_rfl) (fun _ _ _ h => h) (Or.inl ⟨by rfl, ?_⟩) hSd ?_
                      · rintro w6 ⟨k1, k2⟩
                        go_simp
                      simp only [Act.put, List.setIfInBounds_toArray, List.set_cons_zero, List.set_cons_succ]
                      refine wpAnyH_take (i := 5) (v := .int .i64 (a1 : Int)) (lit rfl) (by kernel_rfl) (by kernel_rfl) (by kernel_rfl) (fun _ _ _ h => h) (Or.inl ⟨by rfl, ?_⟩) hSd ?_
                      · rintro w6 ⟨k1, k2⟩
                        go_simp
                      simp only [Act.put, List.setIfInBounds_toArray, List.set_cons_zero, List.set_cons_succ]
                      refine wpAnyH_take (i := 6) (v := .pointer (some ⟨g, off + a1, none⟩)) (lit rfl) (by kernel_rfl) (by kernel_rfl) (by kernel_rfl) (fun _ _ _ h => h) (Or.inl ⟨by rfl, ?_⟩) hSd ?_
                      · rintro w6 ⟨k1, k2⟩
                        go_simp
                      simp only [Act.put, List.setIfInBounds_toArray, List.set_cons_zero, List.set_cons_succ]
                      refine wpAnyH_take (i := 7) (v := .int .u64 (x : Int)) (lit rfl) (by kernel_rfl) (by kernel_rfl) (by kernel_rfl) (fun _ _ _ h => h) (Or.inl ⟨by rfl, ?_⟩) hSd ?_
                      · rintro w6 ⟨k1, k2⟩
                        go_simp
                      simp only [Act.put, List.setIfInBounds_toArray, List.set_cons_zero, List.set_cons_succ]
                      refine wpAnyH_take (i := 8) (v := .slice (some ⟨g, off, none⟩) n c) (lit rfl) (by kernel_rfl) (by kernel_rfl) (by kernel_rfl) (fun _ _ _ h => h) (Or.inl ⟨by rfl, ?_⟩) hSd ?_
                      · rintro w6 ⟨k1, k2⟩
                        go_simp
                      simp only [Act.put, List.setIfInBounds_toArray, List.set_cons_zero, List.set_cons_succ]
                      refine wpAnyH_take (i := 9) (v := .int .i64 (p0 : Int)) (lit rfl) (by kernel_rfl) (by kernel_rfl) (by kernel_rfl) (fun _ _ _ h => h) (Or.inl ⟨by rfl, ?_⟩) hSd ?_
                      · rintro w6 ⟨k1, k2⟩
                        go_simp
                      simp only [Act.put, List.setIfInBounds_toArray, List.set_cons_zero, List.set_cons_succ]
                      refine wpAnyH_take (i := 10) (v := .pointer (some ⟨g, off + p0, none⟩)) (lit rfl) (by kernel_rfl) (by kernel_rfl) (by kernel_rfl) (fun _ _ _ h => h) (Or.inl ⟨by rfl, ?_⟩) hSd ?_
                      · rintro w6 ⟨k1, k2⟩
                        go_simp
                      simp only [Act.put, List.setIfInBounds_toArray, List.set_cons_zero, List.set_cons_succ]
                      refine wpAnyH_take (i := 11) (v := .int .u64 (y : Int)) (lit rfl) (by kernel_rfl) (by kernel_rfl) (by kernel_rfl) (fun _ _ _ h => h) (Or.inl ⟨by rfl, ?_⟩) hSd ?_
                      · rintro w6 ⟨k1, k2⟩
                        go_simp
                      simp only [Act.put, List.setIfInBounds_toArray, List.set_cons_zero, List.set_cons_succ]
                      refine wpAnyH_ready (rs := [12]) (by kernel_rfl) (by simp) ?_
                      refine AllReadyH.cons (lit rfl) (fun K5 hK5 => ?_) AllReadyH.nil
                      go_simp
                      go_at_call 28
                      (with_reducible refine (HLS.out _ _ _).mono ?_)
                      rintro e7 w7 ⟨rfl, rfl⟩
                      rw [HL.out]
                      refine hK5.out _ _ hSd (fun _ => ?_)
                      clear hK5 K5
                      refine wpAnyH_take (i := 13) (v := .bool false) (lit rfl) (by kernel_rfl) (by kernel_rfl) (by kernel_rfl) (fun _ _ _ h => h) (Or.inl ⟨by rfl, ?_⟩) hSd ?_
                      · rintro w6 ⟨k1, k2⟩
                        go_simp
                      simp only [Act.put, List.setIfInBounds_toArray, List.set_cons_zero, List.set_cons_succ]
                      refine wpAnyH_take (i := 14) (v := .bool false) (lit rfl) (by kernel_rfl) (by kernel_rfl) (by kernel_rfl) (fun _ _ _ h => h) (Or.inl ⟨by rfl, ?_⟩) hSd ?_
                      · rintro w6 ⟨k1, k2⟩
                        go_simp
                      simp only [Act.put, List.setIfInBounds_toArray, List.set_cons_zero, List.set_cons_succ]
                      refine wpAnyH_done (by kernel_rfl) ?_ _
                      refine hK _ _ ?_
                      clear ca cb hSd HL bx0 bx1 by0 by1 hwa haI
                      by_cases hlr : mid - a < b - mid
                      · have g9 : (ll : Int) < (rl : Int) := by omega
                        go_wp2_with (first
                          | (go_at_call 30; (with_reducible refine (HPT.out _ L1.out).mono ?_); rintro e w8 ⟨rfl, h9⟩; have T1 := Lib.hid h9; clear h9)
                          | (go_at_call 20; (with_reducible refine (IH.out a mid lim d4 _ T1.out (by omega) (by omega) (by omega) (by omega)).mono ?_); rintro e w8 ⟨rfl, h9⟩; have Q1 := Lib.hid h9; clear h9))
                        go_roundw
                        case rel => exact ⟨mid + 1, b, lim, _, ap, _, by go_num, rfl, rfl, congrArg Value.bool (show decide (q8 ≤ ll) = decide (mid - a ≥ (b - a) / 8) from decide_eq_decide.2 (by omega)), rfl, by omega, by omega, by omega, Q1.out, by rw [← HTL.out, HTT.out, if_pos hlr], by omega⟩
                        case measure => simp [intOf]; omega
                      · have g9 : ¬ (ll : Int) < (rl : Int) := by omega
                        have IHR := Lib.hid (fun w h => IH.out (mid + 1) b lim d4 w h (by omega) (by omega) hbn (by omega))
                        rw [show ((mid + 1 : Nat) : Int) = (mid : Int) + 1 by omega] at IHR
                        go_wp2_with (first
                          | (go_at_call 30; (with_reducible refine (HPT.out _ L1.out).mono ?_); rintro e w8 ⟨rfl, h9⟩; have T1 := Lib.hid h9; clear h9)
                          | (go_at_call 20; (with_reducible refine (IHR.out _ T1.out).mono ?_); rintro e w8 ⟨rfl, h9⟩; have Q1 := Lib.hid h9; clear h9))
                        go_roundw
                        case rel => exact ⟨a, mid, lim, _, ap, _, rfl, rfl, rfl, congrArg Value.bool (show decide (q8 ≤ rl) = decide (b - mid ≥ (b - a) / 8) from decide_eq_decide.2 (by omega)), rfl, by omega, by omega, by omega, Q1.out, by rw [← HTL.out, HTT.out, if_neg hlr], by omega⟩
                        case measure => simp [intOf]; omega
                  · have ga0 : ¬ (0 : Int) < (a : Int) := by omega
                    have L1 := Lib.hid C1.out.drew
                    obtain ⟨r, hr⟩ : ∃ r, partition ltU dk a b p0 = r := ⟨_, rfl⟩
                    obtain ⟨k1, k2, k3⟩ := partition_holds ltU swoU dk a b p0 hp1 hp2 (by rw [HDS.out]; exact hbn)
                    have HPT := Lib.hid (fun w h => oPartU_any (g := g) (off := off) c a b p0 dk W0 w h hp1 hp2 hbn)
                    rw [hr] at k1 k2 HPT
                    obtain ⟨mid, ap, d4⟩ := r
                    dsimp only at k1 k2 HPT
                    have HTT := Lib.hid (tailU_part (lim := lim) (wb := true) (wp := false) (Or.inl ha0) hr k1 k2)
                    obtain ⟨ll, hll⟩ : ∃ ll : Nat, mid - a = ll := ⟨_, rfl⟩
                    obtain ⟨rl, hrl⟩ : ∃ rl : Nat, b - mid = rl := ⟨_, rfl⟩
                    have hll1 : (mid : Int) - (a : Int) = (ll : Int) := by omega
                    have hrl1 : (b : Int) - (mid : Int) = (rl : Int) := by omega
                    clear hr k3
                    go_wp2
                    rename_i K hK
                    refine wp_held (fun _ : World => True) K hmx ?_ (fun _ _ h => h)
                    refine wpAnyH_take (i := 0) (v := .int .i64 (a : Int)) (lit rfl) (by kernel_rfl) (by kernel_rfl) (by kernel_rfl) (fun _ _ _ h => h) (Or.inl ⟨by rfl, ?_⟩) trivial ?_
                    · rintro w6 k1
                      go_simp
                    simp only [Act.put, List.setIfInBounds_toArray, List.set_cons_zero, List.set_cons_succ]
                    refine wpAnyH_take (i := 1) (v := .bool false) (lit rfl) (by kernel_rfl) (by kernel_rfl) (by kernel_rfl) (fun _ _ _ h => h) (Or.inl ⟨by rfl, ?_⟩) trivial ?_
                    · rintro w6 k1
                      go_simp
                    simp only [Act.put, List.setIfInBounds_toArray, List.set_cons_zero, List.set_cons_succ]
                    refine wpAnyH_take (i := 2) (v := .bool false) (lit rfl) (by kernel_rfl) (by kernel_rfl) (by kernel_rfl) (fun _ _ _ h => h) (Or.inl ⟨by rfl, ?_⟩) trivial ?_
                    · rintro w6 k1
                      go_simp
                    simp only [Act.put, List.setIfInBounds_toArray, List.set_cons_zero, List.set_cons_succ]
                    refine wpAnyH_take (i := 3) (v := undef) (lit rfl) (by kernel_rfl) (by kernel_rfl) (by kernel_rfl) (fun _ _ _ h => h) (Or.inr ⟨by rfl, rfl⟩) trivial ?_
                    simp only [Act.put, List.setIfInBounds_toArray, List.set_cons_zero, List.set_cons_succ]
                    refine wpAnyH_take (i := 4) (v := undef) (lit rfl) (by kernel_rfl) (by kernel_rfl) (by kernel_rfl) (fun _ _ _ h => h) (Or.inr ⟨by rfl, rfl⟩) trivial ?_
                    simp only [Act.put, List.setIfInBounds_toArray, List.set_cons_zero, List.set_cons_succ]
                    refine wpAnyH_take (i := 5) (v := undef) (lit rfl) (by kernel_rfl) (by kernel_rfl) (by kernel_rfl) (fun _ _ _ h => h) (Or.inr ⟨by rfl, rfl⟩) trivial ?_
                    simp only [Act.put, List.setIfInBounds_toArray, List.set_cons_zero, List.set_cons_succ]
                    refine wpAnyH_take (i := 6) (v := undef) (lit rfl) (by kernel_rfl) (by kernel_rfl) (by kernel_rfl) (fun _ _ _ h => h) (Or.inr ⟨by rfl, rfl⟩) trivial ?_
                    simp only [Act.put, List.setIfInBounds_toArray, List.set_cons_zero, List.set_cons_succ]
                    refine wpAnyH_take (i := 7) (v := undef) (lit rfl) (by kernel_rfl) (by kernel_rfl) (by kernel_rfl) (fun _ _ _ h => h) (Or.inr ⟨by rfl, rfl⟩) trivial ?_
                    simp only [Act.put, List.setIfInBounds_toArray, List.set_cons_zero, List.set_cons_succ]
                    refine wpAnyH_take (i := 8) (v := undef) (lit rfl) (by kernel_rfl) (by kernel_rfl) (by kernel_rfl) (fun _ _ _ h => h) (Or.inr ⟨by rfl, rfl⟩) trivial ?_
                    simp only [Act.put, List.setIfInBounds_toArray, List.set_cons_zero, List.set_cons_succ]
                    refine wpAnyH_take (i := 9) (v := undef) (lit rfl) (by kernel_rfl) (by kernel_rfl) (by kernel_rfl) (fun _ _ _ h => h) (Or.inr ⟨by rfl, rfl⟩) trivial ?_
                    simp only [Act.put, List.setIfInBounds_toArray, List.set_cons_zero, List.set_cons_succ]
                    refine wpAnyH_take (i := 10) (v := undef) (lit rfl) (by kernel_rfl) (by kernel_rfl) (by kernel_rfl) (fun _ _ _ h => h) (Or.inr ⟨by rfl, rfl⟩) trivial ?_
                    simp only [Act.put, List.setIfInBounds_toArray, List.set_cons_zero, List.set_cons_succ]
                    refine wpAnyH_take (i := 11) (v := undef) (lit rfl) (by kernel_rfl) (by kernel_rfl) (by kernel_rfl) (fun _ _ _ h => h) (Or.inr ⟨by rfl, rfl⟩) trivial ?_
                    simp only [Act.put, List.setIfInBounds_toArray, List.set_cons_zero, List.set_cons_succ]
                    refine wpAnyH_take (i := 12) (v := undef) (lit rfl) (by kernel_rfl) (by kernel_rfl) (by kernel_rfl) (fun _ _ _ h => h) (Or.inr ⟨by rfl, rfl⟩) trivial ?_
                    simp only [Act.put, List.setIfInBounds_toArray, List.set_cons_zero, List.set_cons_succ]
                    refine wpAnyH_take (i := 13) (v := undef) (lit rfl) (by kernel_rfl) (by kernel_rfl) (by kernel_rfl) (fun _ _ _ h => h) (Or.inr ⟨by rfl, rfl⟩) trivial ?_
                    simp only [Act.put, List.setIfInBounds_toArray, List.set_cons_zero, List.set_cons_succ]
                    refine wpAnyH_take (i := 14) (v := .bool false) (lit rfl) (by kernel_rfl) (by kernel_rfl) (by kernel_rfl) (fun _ _ _ h => h) (Or.inl ⟨by rfl, ?_⟩) trivial ?_
                    · rintro w6 k1
                      go_simp
                    simp only [Act.put, List.setIfInBounds_toArray, List.set_cons_zero, List.set_cons_succ]
                    refine wpAnyH_done (by kernel_rfl) ?_ _
                    refine hK _ _ ?_
                    by_cases hlr : mid - a < b - mid
                    · have g9 : (ll : Int) < (rl : Int) := by omega
                      go_wp2_with (first
                        | (go_at_call 30; (with_reducible refine (HPT.out _ L1.out).mono ?_); rintro e w8 ⟨rfl, h9⟩; have T1 := Lib.hid h9; clear h9)
                        | (go_at_call 20; (with_reducible refine (IH.out a mid lim d4 _ T1.out (by omega) (by omega) (by omega) (by omega)).mono ?_); rintro e w8 ⟨rfl, h9⟩; have Q1 := Lib.hid h9; clear h9))
                      go_roundw
                      case rel => exact ⟨mid + 1, b, lim, _, ap, _, by go_num, rfl, rfl, congrArg Value.bool (show decide (q8 ≤ ll) = decide (mid - a ≥ (b - a) / 8) from decide_eq_decide.2 (by omega)), rfl, by omega, by omega, by omega, Q1.out, by rw [← HTL.out, HTT.out, if_pos hlr], by omega⟩
                      case measure => simp [intOf]; omega
                    · have g9 : ¬ (ll : Int) < (rl : Int) := by omega
                      have IHR := Lib.hid (fun w h => IH.out (mid + 1) b lim d4 w h (by omega) (by omega) hbn (by omega))
                      rw [show ((mid + 1 : Nat) : Int) = (mid : Int) + 1 by omega] at IHR
                      go_wp2_with (first
                        | (go_at_call 30; (with_reducible refine (HPT.out _ L1.out).mono ?_); rintro e w8 ⟨rfl, h9⟩; have T1 := Lib.hid h9; clear h9)
                        | (go_at_call 20; (with_reducible refine (IHR.out _ T1.out).mono ?_); rintro e w8 ⟨rfl, h9⟩; have Q1 := Lib.hid h9; clear h9))
                      go_roundw
                      case rel => exact ⟨a, mid, lim, _, ap, _, rfl, rfl, rfl, congrArg Value.bool (show decide (q8 ≤ rl) = decide (b - mid ≥ (b - a) / 8) from decide_eq_decide.2 (by omega)), rfl, by omega, by omega, by omega, Q1.out, by rw [← HTL.out, HTT.out, if_neg hlr], by omega⟩
                      case measure => simp [intOf]; omega
              case increasing =>
                simp only [hintU] at hcp
                have HCP := Lib.hid hcp
                clear hcp
                have hp1 := hch.1
                have hp2 := hch.2
                have HTL : Hid (pdqUTail dk a b lim p0 true false = pdq ltU d a0 b0 lim0 true true) := Lib.hid (by rw [← K4.out, HU.out]; rfl)
                go_wp2_with (first
                  | (go_at_call 25; (with_reducible refine (HCP.out _ K1.out).mono ?_); rintro e w8 ⟨rfl, h9⟩; have C1 := Lib.hid h9; clear h9))
                have HDS := Lib.hid C1.out.size
                as_aux_lemma =>
                  by_cases ha0 : 0 < a
                  · have ga0 : (0 : Int) < (a : Int) := by omega
                    obtain ⟨a1, ha1⟩ : ∃ a1, a - 1 = a1 := ⟨_, rfl⟩
                    have haI : (a : Int) - 1 = (a1 : Int) := by omega
                    have hwa : IntKind.i64.wrap (a1 : Int) = (a1 : Int) := by rw [IntKind.wrap_i64]; omega
                    have L1 := Lib.hid C1.out.drew
                    have ca := C1.out.cell a1 (by omega)
                    have cb := C1.out.cell p0 (by omega)
                    obtain ⟨x, hx⟩ : ∃ x, dk[a1]! = x := ⟨_, rfl⟩
                    obtain ⟨y, hy⟩ : ∃ y, dk[p0]! = y := ⟨_, rfl⟩
                    rw [hx] at ca
                    rw [hy] at cb
                    have bx0 : (0 : Int) ≤ (a1 : Int) := by omega
                    have bx1 : (a1 : Int) < (n : Int) := by omega
                    have by0 : (0 : Int) ≤ (p0 : Int) := by omega
                    have by1 : (p0 : Int) < (n : Int) := by omega
                    have hSd : (fun w' : World => w'.cell? ⟨g, off + a1, none⟩ = some (.int .u64 (x : Int)) ∧ w'.cell? ⟨g, off + p0, none⟩ = some (.int .u64 (y : Int))) _ := ⟨ca, cb⟩
                    cases hv : ltU x y
                    · have HL := Lib.hid hv
                      have HV : Hid (ltU dk[a - 1]! dk[p0]! = false) := Lib.hid (by rw [ha1, hx, hy]; exact hv)
                      have HPE := Lib.hid (fun w h => oPartEqU_any (g := g) (off := off) c a b p0 dk W0 w h hp1 hp2 hbn)
                      have HTE := Lib.hid (fun h1 h2 => tailU_eq (b := b) (lim := lim) (wb := true) (wp := false) ha0 HV.out h1 h2)
                      clear hv hx hy ha1
                      generalize partitionEqual ltU dk a b p0 = r at HPE HTE
                      obtain ⟨mid, d4⟩ := r
                      dsimp only at HPE HTE
                      go_wp2
                      rename_i K hK
                      refine wp_held (fun w' : World => w'.cell? ⟨g, off + a1, none⟩ = some (.int .u64 (x : Int)) ∧ w'.cell? ⟨g, off + p0, none⟩ = some (.int .u64 (y : Int))) K hmx ?_ (fun _ _ h => h)
                      refine wpAnyH_take (i := 0) (v := .int .i64 (a : Int)) (lit rfl) (by kernel_rfl) (by kernel_rfl) (by kernel_rfl) (fun _ _ _ h => h) (Or.inl ⟨by rfl, ?_⟩) hSd ?_
                      · rintro w6 ⟨k1, k2⟩
                        go_simp
                      simp only [Act.put, List.setIfInBounds_toArray, List.set_cons_zero, List.set_cons_succ]
                      refine wpAnyH_take (i := 1) (v := .bool true) (lit rfl) (by kernel_rfl) (by kernel_rfl) (by kernel_rfl) (fun _ _ _ h => h) (Or.inl ⟨by rfl, ?_⟩) hSd ?_
                      · rintro w6 ⟨k1, k2⟩
                        go_simp
                      simp only [Act.put, List.setIfInBounds_toArray, List.set_cons_zero, List.set_cons_succ]
                      refine wpAnyH_take (i := 2) (v := .bool true) (lit rfl) (by kernel_rfl) (by kernel_rfl) (by kernel_rfl) (fun _ _ _ h => h) (Or.inl ⟨by rfl, ?_⟩) hSd ?_
                      · rintro w6 ⟨k1, k2⟩
                        go_simp
                      simp only [Act.put, List.setIfInBounds_toArray, List.set_cons_zero, List.set_cons_succ]
                      refine wpAnyH_take (i := 3) (v := .slice (some ⟨g, off, none⟩) n c) (lit rfl) (by kernel_rfl) (by kernel_rfl) (by kernel_rfl) (fun _ _ _ h => h) (Or.inl ⟨by rfl, ?_⟩) hSd ?_
                      · rintro w6 ⟨k1, k2⟩
                        go_simp
                      simp only [Act.put, List.setIfInBounds_toArray, List.set_cons_zero, List.set_cons_succ]
                      refine wpAnyH_take (i := 4) (v := .int .i64 (a : Int)) (lit rfl) (by kernel_rfl) (by kernel_rfl) (by kernel_rfl) (fun _ _ _ h => h) (Or.inl ⟨by rfl, ?_⟩) hSd ?_
                      · rintro w6 ⟨k1, k2⟩
                        go_simp
                      simp only [Act.put, List.setIfInBounds_toArray, List.set_cons_zero, List.set_cons_succ]
                      refine wpAnyH_take (i := 5) (v := .int .i64 (a1 : Int)) (lit rfl) (by kernel_rfl) (by kernel_rfl) (by kernel_rfl) (fun _ _ _ h => h) (Or.inl ⟨by rfl, ?_⟩) hSd ?_
                      · rintro w6 ⟨k1, k2⟩
                        go_simp
                      simp only [Act.put, List.setIfInBounds_toArray, List.set_cons_zero, List.set_cons_succ]
                      refine wpAnyH_take (i := 6) (v := .pointer (some ⟨g, off + a1, none⟩)) (lit rfl) (by kernel_rfl) (by kernel_rfl) (by kernel_rfl) (fun _ _ _ h => h) (Or.inl ⟨by rfl, ?_⟩) hSd ?_
                      · rintro w6 ⟨k1, k2⟩
                        go_simp
                      simp only [Act.put, List.setIfInBounds_toArray, List.set_cons_zero, List.set_cons_succ]
                      refine wpAnyH_take (i := 7) (v := .int .u64 (x : Int)) (lit rfl) (by kernel_rfl) (by kernel_rfl) (by kernel_rfl) (fun _ _ _ h => h) (Or.inl ⟨by rfl, ?_⟩) hSd ?_
                      · rintro w6 ⟨k1, k2⟩
                        go_simp
                      simp only [Act.put, List.setIfInBounds_toArray, List.set_cons_zero, List.set_cons_succ]
                      refine wpAnyH_take (i := 8) (v := .slice (some ⟨g, off, none⟩) n c) (lit rfl) (by kernel_rfl) (by kernel_rfl) (by kernel_rfl) (fun _ _ _ h => h) (Or.inl ⟨by rfl, ?_⟩) hSd ?_
                      · rintro w6 ⟨k1, k2⟩
                        go_simp
                      simp only [Act.put, List.setIfInBounds_toArray, List.set_cons_zero, List.set_cons_succ]
                      refine wpAnyH_take (i := 9) (v := .int .i64 (p0 : Int)) (lit rfl) (by kernel_rfl) (by kernel_rfl) (by kernel_rfl) (fun _ _ _ h => h) (Or.inl ⟨by rfl, ?_⟩) hSd ?_
                      · rintro w6 ⟨k1, k2⟩
                        go_simp
                      simp only [Act.put, List.setIfInBounds_toArray, List.set_cons_zero, List.set_cons_succ]
                      refine wpAnyH_take (i := 10) (v := .pointer (some ⟨g, off + p0, none⟩)) (lit rfl) (by kernel_rfl) (by kernel_rfl) (by kernel_rfl) (fun _ _ _ h => h) (Or.inl ⟨by rfl, ?_⟩) hSd ?_
                      · rintro w6 ⟨k1, k2⟩
                        go_simp
                      simp only [Act.put, List.setIfInBounds_toArray, List.set_cons_zero, List.set_cons_succ]
                      refine wpAnyH_take (i := 11) (v := .int .u64 (y : Int)) (lit rfl) (by kernel_rfl) (by kernel_rfl) (by kernel_rfl) (fun _ _ _ h => h) (Or.inl ⟨by rfl, ?_⟩) hSd ?_
                      · rintro w6 ⟨k1, k2⟩
                        go_simp
                      simp only [Act.put, List.setIfInBounds_toArray, List.set_cons_zero, List.set_cons_succ]
                      refine wpAnyH_ready (rs := [12]) (by kernel_rfl) (by simp) ?_
                      refine AllReadyH.cons (lit rfl) (fun K5 hK5 => ?_) AllReadyH.nil
                      go_simp
                      go_at_call 28
                      (with_reducible refine (HLS.out _ _ _).mono ?_)
                      rintro e7 w7 ⟨rfl, rfl⟩
                      rw [HL.out]
                      refine hK5.out _ _ hSd (fun _ => ?_)
                      clear hK5 K5
                      refine wpAnyH_take (i := 13) (v := .bool true) (lit rfl) (by kernel_rfl) (by kernel_rfl) (by kernel_rfl) (fun _ _ _ h => h) (Or.inl ⟨by rfl, ?_⟩) hSd ?_
                      · rintro w6 ⟨k1, k2⟩
                        go_simp
                      simp only [Act.put, List.setIfInBounds_toArray, List.set_cons_zero, List.set_cons_succ]
                      refine wpAnyH_take (i := 14) (v := .bool true) (lit rfl) (by kernel_rfl) (by kernel_rfl) (by kernel_rfl) (fun _ _ _ h => h) (Or.inl ⟨by rfl, ?_⟩) hSd ?_
                      · rintro w6 ⟨k1, k2⟩
                        go_simp
                      simp only [Act.put, List.setIfInBounds_toArray, List.set_cons_zero, List.set_cons_succ]
                      refine wpAnyH_done (by kernel_rfl) ?_ _
                      refine hK _ _ ?_
                      clear ca cb hSd HL bx0 bx1 by0 by1 hwa haI
                      go_wp2_with (first
                        | (go_at_call 29; (with_reducible refine (HPE.out _ L1.out).mono ?_); rintro e w8 ⟨rfl, h9, ke1, ke2⟩; have E1 := Lib.hid h9; have KE := Lib.hid (And.intro ke1 ke2); clear ke1 ke2 h9))
                      have k1 := KE.out.1
                      have k2 := KE.out.2
                      go_roundw
                      case rel => exact ⟨mid, b, lim, true, false, _, rfl, rfl, rfl, rfl, rfl, by omega, by omega, by omega, E1.out, by rw [← HTL.out, HTE.out k1 k2], by omega⟩
                      case measure => simp [intOf]; omega
                    · have HL := Lib.hid hv
                      have HV : Hid (ltU dk[a - 1]! dk[p0]! = true) := Lib.hid (by rw [ha1, hx, hy]; exact hv)
                      clear hv hx hy ha1
                      obtain ⟨r, hr⟩ : ∃ r, partition ltU dk a b p0 = r := ⟨_, rfl⟩
                      obtain ⟨k1, k2, k3⟩ := partition_holds ltU swoU dk a b p0 hp1 hp2 (by rw [HDS.out]; exact hbn)
                      have HPT := Lib.hid (fun w h => oPartU_any (g := g) (off := off) c a b p0 dk W0 w h hp1 hp2 hbn)
                      rw [hr] at k1 k2 HPT
                      obtain ⟨mid, ap, d4⟩ := r
                      dsimp only at k1 k2 HPT
                      have HTT := Lib.hid (tailU_part (lim := lim) (wb := true) (wp := false) (Or.inr HV.out) hr k1 k2)
                      obtain ⟨ll, hll⟩ : ∃ ll : Nat, mid - a = ll := ⟨_, rfl⟩
                      obtain ⟨rl, hrl⟩ : ∃ rl : Nat, b - mid = rl := ⟨_, rfl⟩
                      have hll1 : (mid : Int) - (a : Int) = (ll : Int) := by omega
                      have hrl1 : (b : Int) - (mid : Int) = (rl : Int) := by omega
                      clear hr k3
                      go_wp2
                      rename_i K hK
                      refine wp_held (fun w' : World => w'.cell? ⟨g, off + a1, none⟩ = some (.int .u64 (x : Int)) ∧ w'.cell? ⟨g, off + p0, none⟩ = some (.int .u64 (y : Int))) K hmx ?_ (fun _ _ h => h)
                      refine wpAnyH_take (i := 0) (v := .int .i64 (a : Int)) (lit rfl) (by kernel_rfl) (by kernel_rfl) (by kernel_rfl) (fun _ _ _ h => h) (Or.inl ⟨by rfl, ?_⟩) hSd ?_
                      · rintro w6 ⟨k1, k2⟩
                        go_simp
                      simp only [Act.put, List.setIfInBounds_toArray, List.set_cons_zero, List.set_cons_succ]
                      refine wpAnyH_take (i := 1) (v := .bool true) (lit rfl) (by kernel_rfl) (by kernel_rfl) (by kernel_rfl) (fun _ _ _ h => h) (Or.inl ⟨by rfl, ?_⟩) hSd ?_
                      · rintro w6 ⟨k1, k2⟩
                        go_simp
                      simp only [Act.put, List.setIfInBounds_toArray, List.set_cons_zero, List.set_cons_succ]
                      refine wpAnyH_take (i := 2) (v := .bool true) (lit rfl) (by kernel_rfl) (by kernel_rfl) (by kernel_rfl) (fun _ _ _ h => h) (Or.inl ⟨by rfl, ?_⟩) hSd ?_
                      · rintro w6 ⟨k1, k2⟩
                        go_simp
                      simp only [Act.put, List.setIfInBounds_toArray, List.set_cons_zero, List.set_cons_succ]
                      refine wpAnyH_take (i := 3) (v := .slice (some ⟨g, off, none⟩) n c) (lit rfl) (by kernel_rfl) (by kernel_rfl) (by kernel_rfl) (fun _ _ _ h => h) (Or.inl ⟨by rfl, ?_⟩) hSd ?_
                      · rintro w6 ⟨k1, k2⟩
                        go_simp
                      simp only [Act.put, List.setIfInBounds_toArray, List.set_cons_zero, List.set_cons_succ]
                      refine wpAnyH_take (i := 4) (v := .int .i64 (a : Int)) (lit rfl) (by kernel_rfl) (by kernel_rfl) (by kernel_rfl) (fun _ _ _ h => h) (Or.inl ⟨by rfl, ?_⟩) hSd ?_
                      · rintro w6 ⟨k1, k2⟩
                        go_simp
                      simp only [Act.put, List.setIfInBounds_toArray, List.set_cons_zero, List.set_cons_succ]
                      refine wpAnyH_take (i := 5) (v := .int .i64 (a1 : Int)) (lit rfl) (by kernel_rfl) (by kernel_rfl) (by kernel_rfl) (fun _ _ _ h => h) (Or.inl ⟨by rfl, ?_⟩) hSd ?_
                      · rintro w6 ⟨k1, k2⟩
                        go_simp
                      simp only [Act.put, List.setIfInBounds_toArray, List.set_cons_zero, List.set_cons_succ]
                      refine wpAnyH_take (i := 6) (v := .pointer (some ⟨g, off + a1, none⟩)) (lit rfl) (by kernel_rfl) (by kernel_rfl) (by kernel_rfl) (fun _ _ _ h => h) (Or.inl ⟨by rfl, ?_⟩) hSd ?_
                      · rintro w6 ⟨k1, k2⟩
                        go_simp
                      simp only [Act.put, List.setIfInBounds_toArray, List.set_cons_zero, List.set_cons_succ]
                      refine wpAnyH_take (i := 7) (v := .int .u64 (x : Int)) (lit rfl) (by kernel_rfl) (by kernel_rfl) (by kernel_rfl) (fun _ _ _ h => h) (Or.inl ⟨by rfl, ?_⟩) hSd ?_
                      · rintro w6 ⟨k1, k2⟩
                        go_simp
                      simp only [Act.put, List.setIfInBounds_toArray, List.set_cons_zero, List.set_cons_succ]
                      refine wpAnyH_take (i := 8) (v := .slice (some ⟨g, off, none⟩) n c) (lit rfl) (by kernel_rfl) (by kernel_rfl) (by kernel_rfl) (fun _ _ _ h => h) (Or.inl ⟨by rfl, ?_⟩) hSd ?_
                      · rintro w6 ⟨k1, k2⟩
                        go_simp
                      simp only [Act.put, List.setIfInBounds_toArray, List.set_cons_zero, List.set_cons_succ]
                      refine wpAnyH_take (i := 9) (v := .int .i64 (p0 : Int)) (lit rfl) (by kernel_rfl) (by kernel_rfl) (by kernel_rfl) (fun _ _ _ h => h) (Or.inl ⟨by rfl, ?_⟩) hSd ?_
                      · rintro w6 ⟨k1, k2⟩
                        go_simp
                      simp only [Act.put, List.setIfInBounds_toArray, List.set_cons_zero, List.set_cons_succ]
                      refine wpAnyH_take (i := 10) (v := .pointer (some ⟨g, off + p0, none⟩)) (lit rfl) (by kernel_rfl) (by kernel_rfl) (by kernel_rfl) (fun _ _ _ h => h) (Or.inl ⟨by rfl, ?_⟩) hSd ?_
                      · rintro w6 ⟨k1, k2⟩
                        go_simp
                      simp only [Act.put, List.setIfInBounds_toArray, List.set_cons_zero, List.set_cons_succ]
                      refine wpAnyH_take (i := 11) (v := .int .u64 (y : Int)) (lit rfl) (by kernel_rfl) (by kernel_rfl) (by kernel_rfl) (fun _ _ _ h => h) (Or.inl ⟨by rfl, ?_⟩) hSd ?_
                      · rintro w6 ⟨k1, k2⟩
                        go_simp
                      simp only [Act.put, List.setIfInBounds_toArray, List.set_cons_zero, List.set_cons_succ]
                      refine wpAnyH_ready (rs := [12]) (by kernel_rfl) (by simp) ?_
                      refine AllReadyH.cons (lit rfl) (fun K5 hK5 => ?_) AllReadyH.nil
                      go_simp
                      go_at_call 28
                      (with_reducible refine (HLS.out _ _ _).mono ?_)
                      rintro e7 w7 ⟨rfl, rfl⟩
                      rw [HL.out]
                      refine hK5.out _ _ hSd (fun _ => ?_)
                      clear hK5 K5
                      refine wpAnyH_take (i := 13) (v := .bool false) (lit rfl) (by kernel_rfl) (by kernel_rfl) (by kernel_rfl) (fun _ _ _ h => h) (Or.inl ⟨by rfl, ?_⟩) hSd ?_
                      · rintro w6 ⟨k1, k2⟩
                        go_simp
                      simp only [Act.put, List.setIfInBounds_toArray, List.set_cons_zero, List.set_cons_succ]
                      refine wpAnyH_take (i := 14) (v := .bool false) (lit rfl) (by kernel_rfl) (by kernel_rfl) (by kernel_rfl) (fun _ _ _ h => h) (Or.inl ⟨by rfl, ?_⟩) hSd ?_
                      · rintro w6 ⟨k1, k2⟩
                        go_simp
                      simp only [Act.put, List.setIfInBounds_toArray, List.set_cons_zero, List.set_cons_succ]
                      refine wpAnyH_done (by kernel_rfl) ?_ _
                      refine hK _ _ ?_
                      clear ca cb hSd HL bx0 bx1 by0 by1 hwa haI
                      by_cases hlr : mid - a < b - mid
                      · have g9 : (ll : Int) < (rl : Int) := by omega
                        go_wp2_with (first
                          | (go_at_call 30; (with_reducible refine (HPT.out _ L1.out).mono ?_); rintro e w8 ⟨rfl, h9⟩; have T1 := Lib.hid h9; clear h9)
                          | (go_at_call 20; (with_reducible refine (IH.out a mid lim d4 _ T1.out (by omega) (by omega) (by omega) (by omega)).mono ?_); rintro e w8 ⟨rfl, h9⟩; have Q1 := Lib.hid h9; clear h9))
                        go_roundw
                        case rel => exact ⟨mid + 1, b, lim, _, ap, _, by go_num, rfl, rfl, congrArg Value.bool (show decide (q8 ≤ ll) = decide (mid - a ≥ (b - a) / 8) from decide_eq_decide.2 (by omega)), rfl, by omega, by omega, by omega, Q1.out, by rw [← HTL.out, HTT.out, if_pos hlr], by omega⟩
                        case measure => simp [intOf]; omega
                      · have g9 : ¬ (ll : Int) < (rl : Int) := by omega
                        have IHR := Lib.hid (fun w h => IH.out (mid + 1) b lim d4 w h (by omega) (by omega) hbn (by omega))
                        rw [show ((mid + 1 : Nat) : Int) = (mid : Int) + 1 by omega] at IHR
                        go_wp2_with (first
                          | (go_at_call 30; (with_reducible refine (HPT.out _ L1.out).mono ?_); rintro e w8 ⟨rfl, h9⟩; have T1 := Lib.hid h9; clear h9)
                          | (go_at_call 20; (with_reducible refine (IHR.out _ T1.out).mono ?_); rintro e w8 ⟨rfl, h9⟩; have Q1 := Lib.hid h9; clear h9))
                        go_roundw
                        case rel => exact ⟨a, mid, lim, _, ap, _, rfl, rfl, rfl, congrArg Value.bool (show decide (q8 ≤ rl) = decide (b - mid ≥ (b - a) / 8) from decide_eq_decide.2 (by omega)), rfl, by omega, by omega, by omega, Q1.out, by rw [← HTL.out, HTT.out, if_neg hlr], by omega⟩
                        case measure => simp [intOf]; omega
                  · have ga0 : ¬ (0 : Int) < (a : Int) := by omega
                    have L1 := Lib.hid C1.out.drew
                    obtain ⟨r, hr⟩ : ∃ r, partition ltU dk a b p0 = r := ⟨_, rfl⟩
                    obtain ⟨k1, k2, k3⟩ := partition_holds ltU swoU dk a b p0 hp1 hp2 (by rw [HDS.out]; exact hbn)
                    have HPT := Lib.hid (fun w h => oPartU_any (g := g) (off := off) c a b p0 dk W0 w h hp1 hp2 hbn)
                    rw [hr] at k1 k2 HPT
                    obtain ⟨mid, ap, d4⟩ := r
                    dsimp only at k1 k2 HPT
                    have HTT := Lib.hid (tailU_part (lim := lim) (wb := true) (wp := false) (Or.inl ha0) hr k1 k2)
                    obtain ⟨ll, hll⟩ : ∃ ll : Nat, mid - a = ll := ⟨_, rfl⟩
                    obtain ⟨rl, hrl⟩ : ∃ rl : Nat, b - mid = rl := ⟨_, rfl⟩
                    have hll1 : (mid : Int) - (a : Int) = (ll : Int) := by omega
                    have hrl1 : (b : Int) - (mid : Int) = (rl : Int) := by omega
                    clear hr k3
                    go_wp2
                    rename_i K hK
                    refine wp_held (fun _ : World => True) K hmx ?_ (fun _ _ h => h)
                    refine wpAnyH_take (i := 0) (v := .int .i64 (a : Int)) (lit rfl) (by kernel_rfl) (by kernel_rfl) (by kernel_rfl) (fun _ _ _ h => h) (Or.inl ⟨by rfl, ?_⟩) trivial ?_
                    · rintro w6 k1
                      go_simp
                    simp only [Act.put, List.setIfInBounds_toArray, List.set_cons_zero, List.set_cons_succ]
                    refine wpAnyH_take (i := 1) (v := .bool false) (lit rfl) (by kernel_rfl) (by kernel_rfl) (by kernel_rfl) (fun _ _ _ h => h) (Or.inl ⟨by rfl, ?_⟩) trivial ?_
                    · rintro w6 k1
                      go_simp
                    simp only [Act.put, List.setIfInBounds_toArray, List.set_cons_zero, List.set_cons_succ]
                    refine wpAnyH_take (i := 2) (v := .bool false) (lit rfl) (by kernel_rfl) (by kernel_rfl) (by kernel_rfl) (fun _ _ _ h => h) (Or.inl ⟨by rfl, ?_⟩) trivial ?_
                    · rintro w6 k1
                      go_simp
                    simp only [Act.put, List.setIfInBounds_toArray, List.set_cons_zero, List.set_cons_succ]
                    refine wpAnyH_take (i := 3) (v := undef) (lit rfl) (by kernel_rfl) (by kernel_rfl) (by kernel_rfl) (fun _ _ _ h => h) (Or.inr ⟨by rfl, rfl⟩) trivial ?_
                    simp only [Act.put, List.setIfInBounds_toArray, List.set_cons_zero, List.set_cons_succ]
                    refine wpAnyH_take (i := 4) (v := undef) (lit rfl) (by kernel_rfl) (by kernel_rfl) (by kernel_rfl) (fun _ _ _ h => h) (Or.inr ⟨by rfl, rfl⟩) trivial ?_
                    simp only [Act.put, List.setIfInBounds_toArray, List.set_cons_zero, List.set_cons_succ]
                    refine wpAnyH_take (i := 5) (v := undef) (lit rfl) (by kernel_rfl) (by kernel_rfl) (by kernel_rfl) (fun _ _ _ h => h) (Or.inr ⟨by rfl, rfl⟩) trivial ?_
                    simp only [Act.put, List.setIfInBounds_toArray, List.set_cons_zero, List.set_cons_succ]
                    refine wpAnyH_take (i := 6) (v := undef) (lit rfl) (by kernel_rfl) (by kernel_rfl) (by kernel_rfl) (fun _ _ _ h => h) (Or.inr ⟨by rfl, rfl⟩) trivial ?_
                    simp only [Act.put, List.setIfInBounds_toArray, List.set_cons_zero, List.set_cons_succ]
                    refine wpAnyH_take (i := 7) (v := undef) (lit rfl) (by kernel_rfl) (by kernel_rfl) (by kernel_rfl) (fun _ _ _ h => h) (Or.inr ⟨by rfl, rfl⟩) trivial ?_
                    simp only [Act.put, List.setIfInBounds_toArray, List.set_cons_zero, List.set_cons_succ]
                    refine wpAnyH_take (i := 8) (v := undef) (lit rfl) (by kernel_rfl) (by kernel_rfl) (by kernel_rfl) (fun _ _ _ h => h) (Or.inr ⟨by rfl, rfl⟩) trivial ?_
                    simp only [Act.put, List.setIfInBounds_toArray, List.set_cons_zero, List.set_cons_succ]
                    refine wpAnyH_take (i := 9) (v := undef) (lit rfl) (by kernel_rfl) (by kernel_rfl) (by kernel_rfl) (fun _ _ _ h => h) (Or.inr ⟨by rfl, rfl⟩) trivial ?_
                    simp only [Act.put, List.setIfInBounds_toArray, List.set_cons_zero, List.set_cons_succ]
                    refine wpAnyH_take (i := 10) (v := undef) (lit rfl) (by kernel_rfl) (by kernel_rfl) (by kernel_rfl) (fun _ _ _ h => h) (Or.inr ⟨by rfl, rfl⟩) trivial ?_
                    simp only [Act.put, List.setIfInBounds_toArray, List.set_cons_zero, List.set_cons_succ]
                    refine wpAnyH_take (i := 11) (v := undef) (lit rfl) (by kernel_rfl) (by kernel_rfl) (by kernel_rfl) (fun _ _ _ h => h) (Or.inr ⟨by rfl, rfl⟩) trivial ?_
                    simp only [Act.put, List.setIfInBounds_toArray, List.set_cons_zero, List.set_cons_succ]
                    refine wpAnyH_take (i := 12) (v := undef) (lit rfl) (by kernel_rfl) (by kernel_rfl) (by kernel_rfl) (fun _ _ _ h => h) (Or.inr ⟨by rfl, rfl⟩) trivial ?_
                    simp only [Act.put, List.setIfInBounds_toArray, List.set_cons_zero, List.set_cons_succ]
                    refine wpAnyH_take (i := 13) (v := undef) (lit rfl) (by kernel_rfl) (by kernel_rfl) (by kernel_rfl) (fun _ _ _ h => h) (Or.inr ⟨by rfl, rfl⟩) trivial ?_
                    simp only [Act.put, List.setIfInBounds_toArray, List.set_cons_zero, List.set_cons_succ]
                    refine wpAnyH_take (i := 14) (v := .bool false) (lit rfl) (by kernel_rfl) (by kernel_rfl) (by kernel_rfl) (fun _ _ _ h => h) (Or.inl ⟨by rfl, ?_⟩) trivial ?_
                    · rintro w6 k1
                      go_simp
                    simp only [Act.put, List.setIfInBounds_toArray, List.set_cons_zero, List.set_cons_succ]
                    refine wpAnyH_done (by kernel_rfl) ?_ _
                    refine hK _ _ ?_
                    by_cases hlr : mid - a < b - mid
                    · have g9 : (ll : Int) < (rl : Int) := by omega
                      go_wp2_with (first
                        | (go_at_call 30; (with_reducible refine (HPT.out _ L1.out).mono ?_); rintro e w8 ⟨rfl, h9⟩; have T1 := Lib.hid h9; clear h9)
                        | (go_at_call 20; (with_reducible refine (IH.out a mid lim d4 _ T1.out (by omega) (by omega) (by omega) (by omega)).mono ?_); rintro e w8 ⟨rfl, h9⟩; have Q1 := Lib.hid h9; clear h9))
                      go_roundw
                      case rel => exact ⟨mid + 1, b, lim, _, ap, _, by go_num, rfl, rfl, congrArg Value.bool (show decide (q8 ≤ ll) = decide (mid - a ≥ (b - a) / 8) from decide_eq_decide.2 (by omega)), rfl, by omega, by omega, by omega, Q1.out, by rw [← HTL.out, HTT.out, if_pos hlr], by omega⟩
                      case measure => simp [intOf]; omega
                    · have g9 : ¬ (ll : Int) < (rl : Int) := by omega
                      have IHR := Lib.hid (fun w h => IH.out (mid + 1) b lim d4 w h (by omega) (by omega) hbn (by omega))
                      rw [show ((mid + 1 : Nat) : Int) = (mid : Int) + 1 by omega] at IHR
                      go_wp2_with (first
                        | (go_at_call 30; (with_reducible refine (HPT.out _ L1.out).mono ?_); rintro e w8 ⟨rfl, h9⟩; have T1 := Lib.hid h9; clear h9)
                        | (go_at_call 20; (with_reducible refine (IHR.out _ T1.out).mono ?_); rintro e w8 ⟨rfl, h9⟩; have Q1 := Lib.hid h9; clear h9))
                      go_roundw
                      case rel => exact ⟨a, mid, lim, _, ap, _, rfl, rfl, rfl, congrArg Value.bool (show decide (q8 ≤ rl) = decide (b - mid ≥ (b - a) / 8) from decide_eq_decide.2 (by omega)), rfl, by omega, by omega, by omega, Q1.out, by rw [← HTL.out, HTT.out, if_neg hlr], by omega⟩
                      case measure => simp [intOf]; omega
              case decreasing =>
                simp only [hintU] at hcp
                have HCP := Lib.hid hcp
                clear hcp
                obtain ⟨d2, hd2⟩ : ∃ d2, reverseRange dk a b = d2 := ⟨_, rfl⟩
                obtain ⟨p, hp⟩ : ∃ p, (b - 1) - (p0 - a) = p := ⟨_, rfl⟩
                have hp3 : (b : Int) - 1 - ((p0 : Int) - (a : Int)) = (p : Int) := by omega
                have hp1 : a ≤ p := by omega
                have hp2 : p < b := by omega
                have HRR := Lib.hid (fun w h => hd2 ▸ revU_any (g := g) (off := off) c a b dk W0 w h (by omega) (by omega) hbn)
                have HTL : Hid (pdqUTail d2 a b lim p true false = pdq ltU d a0 b0 lim0 true true) := Lib.hid (by rw [← K4.out, HU.out] ; unfold pdqUC; rw [← hd2, ← hp]; rfl)
                clear hd2 hp
                go_wp2_with (first
                  | (go_at_call 25; (with_reducible refine (HCP.out _ K1.out).mono ?_); rintro e w8 ⟨rfl, h9⟩; have C1 := Lib.hid h9; clear h9)
                  | (go_at_call 26; (with_reducible refine (HRR.out _ C1.out).mono ?_); rintro e w8 ⟨rfl, h9⟩; have R1 := Lib.hid h9; clear h9))
                have HDS := Lib.hid R1.out.size
                as_aux_lemma =>
                  by_cases ha0 : 0 < a
                  · have ga0 : (0 : Int) < (a : Int) := by omega
                    obtain ⟨a1, ha1⟩ : ∃ a1, a - 1 = a1 := ⟨_, rfl⟩
                    have haI : (a : Int) - 1 = (a1 : Int) := by omega
                    have hwa : IntKind.i64.wrap (a1 : Int) = (a1 : Int) := by rw [IntKind.wrap_i64]; omega
                    have L1 := Lib.hid R1.out.drew
                    have ca := R1.out.cell a1 (by omega)
                    have cb := R1.out.cell p (by omega)
                    obtain ⟨x, hx⟩ : ∃ x, d2[a1]! = x := ⟨_, rfl⟩
                    obtain ⟨y, hy⟩ : ∃ y, d2[p]! = y := ⟨_, rfl⟩
                    rw [hx] at ca
                    rw [hy] at cb
                    have bx0 : (0 : Int) ≤ (a1 : Int) := by omega
                    have bx1 : (a1 : Int) < (n : Int) := by omega
                    have by0 : (0 : Int) ≤ (p : Int) := by omega
                    have by1 : (p : Int) < (n : Int) := by omega
                    have hSd : (fun w' : World => w'.cell? ⟨g, off + a1, none⟩ = some (.int .u64 (x : Int)) ∧ w'.cell? ⟨g, off + p, none⟩ = some (.int .u64 (y : Int))) _ := ⟨ca, cb⟩
                    cases hv : ltU x y
                    · have HL := Lib.hid hv
                      have HV : Hid (ltU d2[a - 1]! d2[p]! = false) := Lib.hid (by rw [ha1, hx, hy]; exact hv)
                      have HPE := Lib.hid (fun w h => oPartEqU_any (g := g) (off := off) c a b p d2 W0 w h hp1 hp2 hbn)
                      have HTE := Lib.hid (fun h1 h2 => tailU_eq (b := b) (lim := lim) (wb := true) (wp := false) ha0 HV.out h1 h2)
                      clear hv hx hy ha1
                      generalize partitionEqual ltU d2 a b p = r at HPE HTE
                      obtain ⟨mid, d4⟩ := r
                      dsimp only at HPE HTE
                      go_wp2
                      rename_i K hK
                      refine wp_held (fun w' : World => w'.cell? ⟨g, off + a1, none⟩ = some (.int .u64 (x : Int)) ∧ w'.cell? ⟨g, off + p, none⟩ = some (.int .u64 (y : Int))) K hmx ?_ (fun _ _ h => h)
                      refine wpAnyH_take (i := 0) (v := .int .i64 (a : Int)) (lit rfl) (by kernel_rfl) (by kernel_rfl) (by kernel_rfl) (fun _ _ _ h => h) (Or.inl ⟨by rfl, ?_⟩) hSd ?_
                      · rintro w6 ⟨k1, k2⟩
                        go_simp
                      simp only [Act.put, List.setIfInBounds_toArray, List.set_cons_zero, List.set_cons_succ]
                      refine wpAnyH_take (i := 1) (v := .bool true) (lit rfl) (by kernel_rfl) (by kernel_rfl) (by kernel_rfl) (fun _ _ _ h => h) (Or.inl ⟨by rfl, ?_⟩) hSd ?_
                      · rintro w6 ⟨k1, k2⟩
                        go_simp
                      simp only [Act.put, List.setIfInBounds_toArray, List.set_cons_zero, List.set_cons_succ]
                      refine wpAnyH_take (i := 2) (v := .bool true) (lit rfl) (by kernel_rfl) (by kernel_rfl) (by kernel_rfl) (fun _ _ _ h => h) (Or.inl ⟨by rfl, ?_⟩) hSd ?_
                      · rintro w6 ⟨k1, k2⟩
                        go_simp
                      simp only [Act.put, List.setIfInBounds_toArray, List.set_cons_zero, List.set_cons_succ]
                      refine wpAnyH_take (i := 3) (v := .slice (some ⟨g, off, none⟩) n c) (lit rfl) (by kernel_rfl) (by kernel_rfl) (by kernel_rfl) (fun _ _ _ h => h) (Or.inl ⟨by rfl, ?_⟩) hSd ?_
                      · rintro w6 ⟨k1, k2⟩
                        go_simp
                      simp only [Act.put, List.setIfInBounds_toArray, List.set_cons_zero, List.set_cons_succ]
                      refine wpAnyH_take (i := 4) (v := .int .i64 (a : Int)) (lit rfl) (by kernel_rfl) (by kernel_rfl) (by kernel_rfl) (fun _ _ _ h => h) (Or.inl ⟨by rfl, ?_⟩) hSd ?_
                      · rintro w6 ⟨k1, k2⟩
                        go_simp
                      simp only [Act.put, List.setIfInBounds_toArray, List.set_cons_zero, List.set_cons_succ]
                      refine wpAnyH_take (i := 5) (v := .int .i64 (a1 : Int)) (lit rfl) (by kernel_rfl) (by kernel_rfl) (by kernel_rfl) (fun _ _ _ h => h) (Or.inl ⟨by rfl, ?_⟩) hSd ?_
                      · rintro w6 ⟨k1, k2⟩
                        go_simp
                      simp only [Act.put, List.setIfInBounds_toArray, List.set_cons_zero, List.set_cons_succ]
                      refine wpAnyH_take (i := 6) (v := .pointer (some ⟨g, off + a1, none⟩)) (lit rfl) (by kernel_rfl) (by kernel_rfl) (by kernel_rfl) (fun _ _ _ h => h) (Or.inl ⟨by rfl, ?_⟩) hSd ?_
                      · rintro w6 ⟨k1, k2⟩
                        go_simp
                      simp only [Act.put, List.setIfInBounds_toArray, List.set_cons_zero, List.set_cons_succ]
                      refine wpAnyH_take (i := 7) (v := .int .u64 (x : Int)) (lit rfl) (by kernel_rfl) (by kernel_rfl) (by kernel_rfl) (fun _ _ _ h => h) (Or.inl ⟨by rfl, ?_⟩) hSd ?_
                      · rintro w6 ⟨k1, k2⟩
                        go_simp
                      simp only [Act.put, List.setIfInBounds_toArray, List.set_cons_zero, List.set_cons_succ]
                      refine wpAnyH_take (i := 8) (v := .slice (some ⟨g, off, none⟩) n c) (lit rfl) (by kernel_rfl) (by kernel_rfl) (by kernel_rfl) (fun _ _ _ h => h) (Or.inl ⟨by rfl, ?_⟩) hSd ?_
                      · rintro w6 ⟨k1, k2⟩
                        go_simp
                      simp only [Act.put, List.setIfInBounds_toArray, List.set_cons_zero, List.set_cons_succ]
                      refine wpAnyH_take (i := 9) (v := .int .i64 (p : Int)) (lit rfl) (by kernel_rfl) (by kernel_rfl) (by kernel_rfl) (fun _ _ _ h => h) (Or.inl ⟨by rfl, ?_⟩) hSd ?_
                      · rintro w6 ⟨k1, k2⟩
                        go_simp
                      simp only [Act.put, List.setIfInBounds_toArray, List.set_cons_zero, List.set_cons_succ]
                      refine wpAnyH_take (i := 10) (v := .pointer (some ⟨g, off + p, none⟩)) (lit rfl) (by kernel_rfl) (by kernel_rfl) (by kernel_rfl) (fun _ _ _ h => h) (Or.inl ⟨by rfl, ?_⟩) hSd ?_
                      · rintro w6 ⟨k1, k2⟩
                        go_simp
                      simp only [Act.put, List.setIfInBounds_toArray, List.set_cons_zero, List.set_cons_succ]
                      refine wpAnyH_take (i := 11) (v := .int .u64 (y : Int)) (lit rfl) (by kernel_rfl) (by kernel_rfl) (by kernel_rfl) (fun _ _ _ h => h) (Or.inl ⟨by rfl, ?_⟩) hSd ?_
                      · rintro w6 ⟨k1, k2⟩
                        go_simp
                      simp only [Act.put, List.setIfInBounds_toArray, List.set_cons_zero, List.set_cons_succ]
                      refine wpAnyH_ready (rs := [12]) (by kernel_rfl) (by simp) ?_
                      refine AllReadyH.cons (lit rfl) (fun K5 hK5 => ?_) AllReadyH.nil
                      go_simp
                      go_at_call 28
                      (with_reducible refine (HLS.out _ _ _).mono ?_)
                      rintro e7 w7 ⟨rfl, rfl⟩
                      rw [HL.out]
                      refine hK5.out _ _ hSd (fun _ => ?_)
                      clear hK5 K5
                      refine wpAnyH_take (i := 13) (v := .bool true) (lit rfl) (by kernel_rfl) (by kernel_rfl) (by kernel_rfl) (fun _ _ _ h => h) (Or.inl ⟨by rfl, ?_⟩) hSd ?_
                      · rintro w6 ⟨k1, k2⟩
                        go_simp
                      simp only [Act.put, List.setIfInBounds_toArray, List.set_cons_zero, List.set_cons_succ]
                      refine wpAnyH_take (i := 14) (v := .bool true) (lit rfl) (by kernel_rfl) (by kernel_rfl) (by kernel_rfl) (fun _ _ _ h => h) (Or.inl ⟨by rfl, ?_⟩) hSd ?_
                      · rintro w6 ⟨k1, k2⟩
                        go_simp
                      simp only [Act.put, List.setIfInBounds_toArray, List.set_cons_zero, List.set_cons_succ]
                      refine wpAnyH_done (by kernel_rfl) ?_ _
                      refine hK _ _ ?_
                      clear ca cb hSd HL bx0 bx1 by0 by1 hwa haI
                      go_wp2_with (first
                        | (go_at_call 29; (with_reducible refine (HPE.out _ L1.out).mono ?_); rintro e w8 ⟨rfl, h9, ke1, ke2⟩; have E1 := Lib.hid h9; have KE := Lib.hid (And.intro ke1 ke2); clear ke1 ke2 h9))
                      have k1 := KE.out.1
                      have k2 := KE.out.2
                      go_roundw
                      case rel => exact ⟨mid, b, lim, true, false, _, rfl, rfl, rfl, rfl, rfl, by omega, by omega, by omega, E1.out, by rw [← HTL.out, HTE.out k1 k2], by omega⟩
                      case measure => simp [intOf]; omega
                    · have HL := Lib.hid hv
                      have HV : Hid (ltU d2[a - 1]! d2[p]! = true) := Lib.hid (by rw [ha1, hx, hy]; exact hv)
                      clear hv hx hy ha1
                      obtain ⟨r, hr⟩ : ∃ r, partition ltU d2 a b p = r := ⟨_, rfl⟩
                      obtain ⟨k1, k2, k3⟩ := partition_holds ltU swoU d2 a b p hp1 hp2 (by rw [HDS.out]; exact hbn)
                      have HPT := Lib.hid (fun w h => oPartU_any (g := g) (off := off) c a b p d2 W0 w h hp1 hp2 hbn)
                      rw [hr] at k1 k2 HPT
                      obtain ⟨mid, ap, d4⟩ := r
                      dsimp only at k1 k2 HPT
                      have HTT := Lib.hid (tailU_part (lim := lim) (wb := true) (wp := false) (Or.inr HV.out) hr k1 k2)
                      obtain ⟨ll, hll⟩ : ∃ ll : Nat, mid - a = ll := ⟨_, rfl⟩
                      obtain ⟨rl, hrl⟩ : ∃ rl : Nat, b - mid = rl := ⟨_, rfl⟩
                      have hll1 : (mid : Int) - (a : Int) = (ll : Int) := by omega
                      have hrl1 : (b : Int) - (mid : Int) = (rl : Int) := by omega
                      clear hr k3
                      go_wp2
                      rename_i K hK
                      refine wp_held (fun w' : World => w'.cell? ⟨g, off + a1, none⟩ = some (.int .u64 (x : Int)) ∧ w'.cell? ⟨g, off + p, none⟩ = some (.int .u64 (y : Int))) K hmx ?_ (fun _ _ h => h)
                      refine wpAnyH_take (i := 0) (v := .int .i64 (a : Int)) (lit rfl) (by kernel_rfl) (by kernel_rfl) (by kernel_rfl) (fun _ _ _ h => h) (Or.inl ⟨by rfl, ?_⟩) hSd ?_
                      · rintro w6 ⟨k1, k2⟩
                        go_simp
                      simp only [Act.put, List.setIfInBounds_toArray, List.set_cons_zero, List.set_cons_succ]
                      refine wpAnyH_take (i := 1) (v := .bool true) (lit rfl) (by kernel_rfl) (by kernel_rfl) (by kernel_rfl) (fun _ _ _ h => h) (Or.inl ⟨by rfl, ?_⟩) hSd ?_
                      · rintro w6 ⟨k1, k2⟩
                        go_simp
                      simp only [Act.put, List.setIfInBounds_toArray, List.set_cons_zero, List.set_cons_succ]
                      refine wpAnyH_take (i := 2) (v := .bool true) (lit rfl) (by kernel_rfl) (by kernel_rfl) (by kernel_rfl) (fun _ _ _ h => h) (Or.inl ⟨by rfl, ?_⟩) hSd ?_
                      · rintro w6 ⟨k1, k2⟩
                        go_simp
                      simp only [Act.put, List.setIfInBounds_toArray, List.set_cons_zero, List.set_cons_succ]
                      refine wpAnyH_take (i := 3) (v := .slice (some ⟨g, off, none⟩) n c) (lit rfl) (by kernel_rfl) (by kernel_rfl) (by kernel_rfl) (fun _ _ _ h => h) (Or.inl ⟨by rfl, ?_⟩) hSd ?_
                      · rintro w6 ⟨k1, k2⟩
                        go_simp
                      simp only [Act.put, List.setIfInBounds_toArray, List.set_cons_zero, List.set_cons_succ]
                      refine wpAnyH_take (i := 4) (v := .int .i64 (a : Int)) (lit rfl) (by kernel_rfl) (by kernel_rfl) (by kernel_rfl) (fun _ _ _ h => h) (Or.inl ⟨by rfl, ?_⟩) hSd ?_
                      · rintro w6 ⟨k1, k2⟩
                        go_simp
                      simp only [Act.put, List.setIfInBounds_toArray, List.set_cons_zero, List.set_cons_succ]
                      refine wpAnyH_take (i := 5) (v := .int .i64 (a1 : Int)) (lit rfl) (by kernel_rfl) (by kernel_rfl) (by kernel_rfl) (fun _ _ _ h => h) (Or.inl ⟨by rfl, ?_⟩) hSd ?_
                      · rintro w6 ⟨k1, k2⟩
                        go_simp
                      simp only [Act.put, List.setIfInBounds_toArray, List.set_cons_zero, List.set_cons_succ]
                      refine wpAnyH_take (i := 6) (v := .pointer (some ⟨g, off + a1, none⟩)) (lit rfl) (by kernel_rfl) (by kernel_rfl) (by kernel_rfl) (fun _ _ _ h => h) (Or.inl ⟨by rfl, ?_⟩) hSd ?_
                      · rintro w6 ⟨k1, k2⟩
                        go_simp
                      simp only [Act.put, List.setIfInBounds_toArray, List.set_cons_zero, List.set_cons_succ]
                      refine wpAnyH_take (i := 7) (v := .int .u64 (x : Int)) (lit rfl) (by kernel_rfl) (by kernel_rfl) (by kernel_rfl) (fun _ _ _ h => h) (Or.inl ⟨by rfl, ?_⟩) hSd ?_
                      · rintro w6 ⟨k1, k2⟩
                        go_simp
                      simp only [Act.put, List.setIfInBounds_toArray, List.set_cons_zero, List.set_cons_succ]
                      refine wpAnyH_take (i := 8) (v := .slice (some ⟨g, off, none⟩) n c) (lit rfl) (by kernel_rfl) (by kernel_rfl) (by kernel_rfl) (fun _ _ _ h => h) (Or.inl ⟨by rfl, ?_⟩) hSd ?_
                      · rintro w6 ⟨k1, k2⟩
                        go_simp
                      simp only [Act.put, List.setIfInBounds_toArray, List.set_cons_zero, List.set_cons_succ]
                      refine wpAnyH_take (i := 9) (v := .int .i64 (p : Int)) (lit rfl) (by kernel_rfl) (by kernel_rfl) (by kernel_rfl) (fun _ _ _ h => h) (Or.inl ⟨by rfl, ?_⟩) hSd ?_
                      · rintro w6 ⟨k1, k2⟩
                        go_simp
                      simp only [Act.put, List.setIfInBounds_toArray, List.set_cons_zero, List.set_cons_succ]
                      refine wpAnyH_take (i := 10) (v := .pointer (some ⟨g, off + p, none⟩)) (lit rfl) (by kernel_rfl) (by kernel_rfl) (by kernel_rfl) (fun _ _ _ h => h) (Or.inl ⟨by rfl, ?_⟩) hSd ?_
                      · rintro w6 ⟨k1, k2⟩
                        go_simp
                      simp only [Act.put, List.setIfInBounds_toArray, List.set_cons_zero, List.set_cons_succ]
                      refine wpAnyH_take (i := 11) (v := .int .u64 (y : Int)) (lit rfl) (by kernel_rfl) (by kernel_rfl) (by kernel_rfl) (fun _ _ _ h => h) (Or.inl ⟨by rfl, ?_⟩) hSd ?_
                      · rintro w6 ⟨k1, k2⟩
                        go_simp
                      simp only [Act.put, List.setIfInBounds_toArray, List.set_cons_zero, List.set_cons_succ]
                      refine wpAnyH_ready (rs := [12]) (by kernel_rfl) (by simp) ?_
                      refine AllReadyH.cons (lit rfl) (fun K5 hK5 => ?_) AllReadyH.nil
                      go_simp
                      go_at_call 28
                      (with_reducible refine (HLS.out _ _ _).mono ?_)
                      rintro e7 w7 ⟨rfl, rfl⟩
                      rw [HL.out]
                      refine hK5.out _ _ hSd (fun _ => ?_)
                      clear hK5 K5
                      refine wpAnyH_take (i := 13) (v := .bool false) (lit rfl) (by kernel_rfl) (by kernel_rfl) (by kernel_rfl) (fun _ _ _ h => h) (Or.inl ⟨by rfl, ?_⟩) hSd ?_
                      · rintro w6 ⟨k1, k2⟩
                        go_simp
                      simp only [Act.put, List.setIfInBounds_toArray, List.set_cons_zero, List.set_cons_succ]
                      refine wpAnyH_take (i := 14) (v := .bool false) (lit rfl) (by kernel_rfl) (by kernel_rfl) (by kernel_rfl) (fun _ _ _ h => h) (Or.inl ⟨by rfl, ?_⟩) hSd ?_
                      · rintro w6 ⟨k1, k2⟩
                        go_simp
                      simp only [Act.put, List.setIfInBounds_toArray, List.set_cons_zero, List.set_cons_succ]
                      refine wpAnyH_done (by kernel_rfl) ?_ _
                      refine hK _ _ ?_
                      clear ca cb hSd HL bx0 bx1 by0 by1 hwa haI
                      by_cases hlr : mid - a < b - mid
                      · have g9 : (ll : Int) < (rl : Int) := by omega
                        go_wp2_with (first
                          | (go_at_call 30; (with_reducible refine (HPT.out _ L1.out).mono ?_); rintro e w8 ⟨rfl, h9⟩; have T1 := Lib.hid h9; clear h9)
                          | (go_at_call 20; (with_reducible refine (IH.out a mid lim d4 _ T1.out (by omega) (by omega) (by omega) (by omega)).mono ?_); rintro e w8 ⟨rfl, h9⟩; have Q1 := Lib.hid h9; clear h9))
                        go_roundw
                        case rel => exact ⟨mid + 1, b, lim, _, ap, _, by go_num, rfl, rfl, congrArg Value.bool (show decide (q8 ≤ ll) = decide (mid - a ≥ (b - a) / 8) from decide_eq_decide.2 (by omega)), rfl, by omega, by omega, by omega, Q1.out, by rw [← HTL.out, HTT.out, if_pos hlr], by omega⟩
                        case measure => simp [intOf]; omega
                      · have g9 : ¬ (ll : Int) < (rl : Int) := by omega
                        have IHR := Lib.hid (fun w h => IH.out (mid + 1) b lim d4 w h (by omega) (by omega) hbn (by omega))
                        rw [show ((mid + 1 : Nat) : Int) = (mid : Int) + 1 by omega] at IHR
                        go_wp2_with (first
                          | (go_at_call 30; (with_reducible refine (HPT.out _ L1.out).mono ?_); rintro e w8 ⟨rfl, h9⟩; have T1 := Lib.hid h9; clear h9)
                          | (go_at_call 20; (with_reducible refine (IHR.out _ T1.out).mono ?_); rintro e w8 ⟨rfl, h9⟩; have Q1 := Lib.hid h9; clear h9))
                        go_roundw
                        case rel => exact ⟨a, mid, lim, _, ap, _, rfl, rfl, rfl, congrArg Value.bool (show decide (q8 ≤ rl) = decide (b - mid ≥ (b - a) / 8) from decide_eq_decide.2 (by omega)), rfl, by omega, by omega, by omega, Q1.out, by rw [← HTL.out, HTT.out, if_neg hlr], by omega⟩
                        case measure => simp [intOf]; omega
                  · have ga0 : ¬ (0 : Int) < (a : Int) := by omega
                    have L1 := Lib.hid R1.out.drew
                    obtain ⟨r, hr⟩ : ∃ r, partition ltU d2 a b p = r := ⟨_, rfl⟩
                    obtain ⟨k1, k2, k3⟩ := partition_holds ltU swoU d2 a b p hp1 hp2 (by rw [HDS.out]; exact hbn)
                    have HPT := Lib.hid (fun w h => oPartU_any (g := g) (off := off) c a b p d2 W0 w h hp1 hp2 hbn)
                    rw [hr] at k1 k2 HPT
                    obtain ⟨mid, ap, d4⟩ := r
                    dsimp only at k1 k2 HPT
                    have HTT := Lib.hid (tailU_part (lim := lim) (wb := true) (wp := false) (Or.inl ha0) hr k1 k2)
                    obtain ⟨ll, hll⟩ : ∃ ll : Nat, mid - a = ll := ⟨_, rfl⟩
                    obtain ⟨rl, hrl⟩ : ∃ rl : Nat, b - mid = rl := ⟨_, rfl⟩
                    have hll1 : (mid : Int) - (a : Int) = (ll : Int) := by omega
                    have hrl1 : (b : Int) - (mid : Int) = (rl : Int) := by omega
                    clear hr k3
                    go_wp2
                    rename_i K hK
                    refine wp_held (fun _ : World => True) K hmx ?_ (fun _ _ h => h)
                    refine wpAnyH_take (i := 0) (v := .int .i64 (a : Int)) (lit rfl) (by kernel_rfl) (by kernel_rfl) (by kernel_rfl) (fun _ _ _ h => h) (Or.inl ⟨by rfl, ?_⟩) trivial ?_
                    · rintro w6 k1
                      go_simp
                    simp only [Act.put, List.setIfInBounds_toArray, List.set_cons_zero, List.set_cons_succ]
                    refine wpAnyH_take (i := 1) (v := .bool false) (lit rfl) (by kernel_rfl) (by kernel_rfl) (by kernel_rfl) (fun _ _ _ h => h) (Or.inl ⟨by rfl, ?_⟩) trivial ?_
                    · rintro w6 k1
                      go_simp
                    simp only [Act.put, List.setIfInBounds_toArray, List.set_cons_zero, List.set_cons_succ]
                    refine wpAnyH_take (i := 2) (v := .bool false) (lit rfl) (by kernel_rfl) (by kernel_rfl) (by kernel_rfl) (fun _ _ _ h => h) (Or.inl ⟨by rfl, ?_⟩) trivial ?_
                    · rintro w6 k1
                      go_simp
                    simp only [Act.put, List.setIfInBounds_toArray, List.set_cons_zero, List.set_cons_succ]
                    refine wpAnyH_take (i := 3) (v := undef) (lit rfl) (by kernel_rfl) (by kernel_rfl) (by kernel_rfl) (fun _ _ _ h => h) (Or.inr ⟨by rfl, rfl⟩) trivial ?_
                    simp only [Act.put, List.setIfInBounds_toArray, List.set_cons_zero, List.set_cons_succ]
                    refine wpAnyH_take (i := 4) (v := undef) (lit rfl) (by kernel_rfl) (by kernel_rfl) (by kernel_rfl) (fun _ _ _ h => h) (Or.inr ⟨by rfl, rfl⟩) trivial ?_
                    simp only [Act.put, List.setIfInBounds_toArray, List.set_cons_zero, List.set_cons_succ]
                    refine wpAnyH_take (i := 5) (v := undef) (lit rfl) (by kernel_rfl) (by kernel_rfl) (by kernel_rfl) (fun _ _ _ h => h) (Or.inr ⟨by rfl, rfl⟩) trivial ?_
                    simp only [Act.put, List.setIfInBounds_toArray, List.set_cons_zero, List.set_cons_succ]
                    refine wpAnyH_take (i := 6) (v := undef) (lit rfl) (by kernel_rfl) (by kernel_rfl) (by kernel_rfl) (fun _ _ _ h => h) (Or.inr ⟨by rfl, rfl⟩) trivial ?_
                    simp only [Act.put, List.setIfInBounds_toArray, List.set_cons_zero, List.set_cons_succ]
                    refine wpAnyH_take (i := 7) (v := undef) (lit rfl) (by kernel_rfl) (by kernel_rfl) (by kernel_rfl) (fun _ _ _ h => h) (Or.inr ⟨by rfl, rfl⟩) trivial ?_
                    simp only [Act.put, List.setIfInBounds_toArray, List.set_cons_zero, List.set_cons_succ]
                    refine wpAnyH_take (i := 8) (v := undef) (lit rfl) (by kernel_rfl) (by kernel_rfl) (by kernel_rfl) (fun _ _ _ h => h) (Or.inr ⟨by rfl, rfl⟩) trivial ?_
                    simp only [Act.put, List.setIfInBounds_toArray, List.set_cons_zero, List.set_cons_succ]
                    refine wpAnyH_take (i := 9) (v := undef) (lit rfl) (by kernel_rfl) (by kernel_rfl) (by kernel_rfl) (fun _ _ _ h => h) (Or.inr ⟨by rfl, rfl⟩) trivial ?_
                    simp only [Act.put, List.setIfInBounds_toArray, List.set_cons_zero, List.set_cons_succ]
                    refine wpAnyH_take (i := 10) (v := undef) (lit rfl) (by kernel_rfl) (by kernel_rfl) (by kernel_rfl) (fun _ _ _ h => h) (Or.inr ⟨by rfl, rfl⟩) trivial ?_
                    simp only [Act.put, List.setIfInBounds_toArray, List.set_cons_zero, List.set_cons_succ]
                    refine wpAnyH_take (i := 11) (v := undef) (lit rfl) (by kernel_rfl) (by kernel_rfl) (by kernel_rfl) (fun _ _ _ h => h) (Or.inr ⟨by rfl, rfl⟩) trivial ?_
                    simp only [Act.put, List.setIfInBounds_toArray, List.set_cons_zero, List.set_cons_succ]
                    refine wpAnyH_take (i := 12) (v := undef) (lit rfl) (by kernel_rfl) (by kernel_rfl) (by kernel_rfl) (fun _ _ _ h => h) (Or.inr ⟨by rfl, rfl⟩) trivial ?_
                    simp only [Act.put, List.setIfInBounds_toArray, List.set_cons_zero, List.set_cons_succ]
                    refine wpAnyH_take (i := 13) (v := undef) (lit rfl) (by kernel_rfl) (by kernel_rfl) (by kernel_rfl) (fun _ _ _ h => h) (Or.inr ⟨by rfl, rfl⟩) trivial ?_
                    simp only [Act.put, List.setIfInBounds_toArray, List.set_cons_zero, List.set_cons_succ]
                    refine wpAnyH_take (i := 14) (v := .bool false) (lit rfl) (by kernel_rfl) (by kernel_rfl) (by kernel_rfl) (fun _ _ _ h => h) (Or.inl ⟨by rfl, ?_⟩) trivial ?_
                    · rintro w6 k1
                      go_simp
                    simp only [Act.put, List.setIfInBounds_toArray, List.set_cons_zero, List.set_cons_succ]
                    refine wpAnyH_done (by kernel_rfl) ?_ _
                    refine hK _ _ ?_
                    by_cases hlr : mid - a < b - mid
                    · have g9 : (ll : Int) < (rl : Int) := by omega
                      go_wp2_with (first
                        | (go_at_call 30; (with_reducible refine (HPT.out _ L1.out).mono ?_); rintro e w8 ⟨rfl, h9⟩; have T1 := Lib.hid h9; clear h9)
                        | (go_at_call 20; (with_reducible refine (IH.out a mid lim d4 _ T1.out (by omega) (by omega) (by omega) (by omega)).mono ?_); rintro e w8 ⟨rfl, h9⟩; have Q1 := Lib.hid h9; clear h9))
                      go_roundw
                      case rel => exact ⟨mid + 1, b, lim, _, ap, _, by go_num, rfl, rfl, congrArg Value.bool (show decide (q8 ≤ ll) = decide (mid - a ≥ (b - a) / 8) from decide_eq_decide.2 (by omega)), rfl, by omega, by omega, by omega, Q1.out, by rw [← HTL.out, HTT.out, if_pos hlr], by omega⟩
                      case measure => simp [intOf]; omega
                    · have g9 : ¬ (ll : Int) < (rl : Int) := by omega
                      have IHR := Lib.hid (fun w h => IH.out (mid + 1) b lim d4 w h (by omega) (by omega) hbn (by omega))
                      rw [show ((mid + 1 : Nat) : Int) = (mid : Int) + 1 by omega] at IHR
                      go_wp2_with (first
                        | (go_at_call 30; (with_reducible refine (HPT.out _ L1.out).mono ?_); rintro e w8 ⟨rfl, h9⟩; have T1 := Lib.hid h9; clear h9)
                        | (go_at_call 20; (with_reducible refine (IHR.out _ T1.out).mono ?_); rintro e w8 ⟨rfl, h9⟩; have Q1 := Lib.hid h9; clear h9))
                      go_roundw
                      case rel => exact ⟨a, mid, lim, _, ap, _, rfl, rfl, rfl, congrArg Value.bool (show decide (q8 ≤ rl) = decide (b - mid ≥ (b - a) / 8) from decide_eq_decide.2 (by omega)), rfl, by omega, by omega, by omega, Q1.out, by rw [← HTL.out, HTT.out, if_neg hlr], by omega⟩
                      case measure => simp [intOf]; omega
            case true =>
              have hch := choosePivot_holds ltU dk a b (by omega)
              have hcp := fun w h => oPivotU_any (g := g) (off := off) c a b dk W0 w h (by omega) hbn
              obtain ⟨r, hr⟩ : ∃ r, choosePivot ltU dk a b = r := ⟨_, rfl⟩
              rw [hr] at hch hcp HU
              obtain ⟨p0, hh⟩ := r
              dsimp only at hch hcp
              clear hr
              cases hh
              case unknown =>
                simp only [hintU] at hcp
                have HCP := Lib.hid hcp
                clear hcp
                have hp1 := hch.1
                have hp2 := hch.2
                have HTL : Hid (pdqUTail dk a b lim p0 true true = pdq ltU d a0 b0 lim0 true true) := Lib.hid (by rw [← K4.out, HU.out]; rfl)
                go_wp2_with (first
                  | (go_at_call 25; (with_reducible refine (HCP.out _ K1.out).mono ?_); rintro e w8 ⟨rfl, h9⟩; have C1 := Lib.hid h9; clear h9))
                have HDS := Lib.hid C1.out.size
                as_aux_lemma =>
                  by_cases ha0 : 0 < a
                  · have ga0 : (0 : Int) < (a : Int) := by omega
                    obtain ⟨a1, ha1⟩ : ∃ a1, a - 1 = a1 := ⟨_, rfl⟩
                    have haI : (a : Int) - 1 = (a1 : Int) := by omega
                    have hwa : IntKind.i64.wrap (a1 : Int) = (a1 : Int) := by rw [IntKind.wrap_i64]; omega
                    have L1 := Lib.hid C1.out.drew
                    have ca := C1.out.cell a1 (by omega)
                    have cb := C1.out.cell p0 (by omega)
                    obtain ⟨x, hx⟩ : ∃ x, dk[a1]! = x := ⟨_, rfl⟩
                    obtain ⟨y, hy⟩ : ∃ y, dk[p0]! = y := ⟨_, rfl⟩
                    rw [hx] at ca
                    rw [hy] at cb
                    have bx0 : (0 : Int) ≤ (a1 : Int) := by omega
                    have bx1 : (a1 : Int) < (n : Int) := by omega
                    have by0 : (0 : Int) ≤ (p0 : Int) := by omega
                    have by1 : (p0 : Int) < (n : Int) := by omega
                    have hSd : (fun w' : World => w'.cell? ⟨g, off + a1, none⟩ = some (.int .u64 (x : Int)) ∧ w'.cell? ⟨g, off + p0, none⟩ = some (.int .u64 (y : Int))) _ := ⟨ca, cb⟩
                    cases hv : ltU x y
                    · have HL := Lib.hid hv
                      have HV : Hid (ltU dk[a - 1]! dk[p0]! = false) := Lib.hid (by rw [ha1, hx, hy]; exact hv)
                      have HPE := Lib.hid (fun w h => oPartEqU_any (g := g) (off := off) c a b p0 dk W0 w h hp1 hp2 hbn)
                      have HTE := Lib.hid (fun h1 h2 => tailU_eq (b := b) (lim := lim) (wb := true) (wp := true) ha0 HV.out h1 h2)
                      clear hv hx hy ha1
                      generalize partitionEqual ltU dk a b p0 = r at HPE HTE
                      obtain ⟨mid, d4⟩ := r
                      dsimp only at HPE HTE
                      go_wp2
                      rename_i K hK
                      refine wp_held (fun w' : World => w'.cell? ⟨g, off + a1, none⟩ = some (.int .u64 (x : Int)) ∧ w'.cell? ⟨g, off + p0, none⟩ = some (.int .u64 (y : Int))) K hmx ?_ (fun _ _ h => h)
                      refine wpAnyH_take (i := 0) (v := .int .i64 (a : Int)) (lit rfl) (by kernel_rfl) (by kernel_rfl) (by kernel_rfl) (fun _ _ _ h => h) (Or.inl ⟨by rfl, ?_⟩) hSd ?_
                      · rintro w6 ⟨k1, k2⟩
                        go_simp
                      simp only [Act.put, List.setIfInBounds_toArray, List.set_cons_zero, List.set_cons_succ]
                      refine wpAnyH_take (i := 1) (v := .bool true) (lit rfl) (by kernel_rfl) (by kernel_rfl) (by kernel_rfl) (fun _ _ _ h => h) (Or.inl ⟨by rfl, ?_⟩) hSd ?_
                      · rintro w6 ⟨k1, k2⟩
                        go_simp
                      simp only [Act.put, List.setIfInBounds_toArray, List.set_cons_zero, List.set_cons_succ]
                      refine wpAnyH_take (i := 2) (v := .bool true) (lit rfl) (by kernel_rfl) (by kernel_rfl) (by kernel_rfl) (fun _ _ _ h => h) (Or.inl ⟨by rfl, ?_⟩) hSd ?_
                      · rintro w6 ⟨k1, k2⟩
                        go_simp
                      simp only [Act.put, List.setIfInBounds_toArray, List.set_cons_zero, List.set_cons_succ]
                      refine wpAnyH_take (i := 3) (v := .slice (some ⟨g, off, none⟩) n c) (lit rfl) (by kernel_rfl) (by kernel_rfl) (by kernel_rfl) (fun _ _ _ h => h) (Or.inl ⟨by rfl, ?_⟩) hSd ?_
                      · rintro w6 ⟨k1, k2⟩
                        go_simp
                      simp only [Act.put, List.setIfInBounds_toArray, List.set_cons_zero, List.set_cons_succ]
                      refine wpAnyH_take (i := 4) (v := .int .i64 (a : Int)) (lit rfl) (by kernel_rfl) (by kernel_rfl) (by kernel_rfl) (fun _ _ _ h => h) (Or.inl ⟨by rfl, ?_⟩) hSd ?_
                      · rintro w6 ⟨k1, k2⟩
                        go_simp
                      simp only [Act.put, List.setIfInBounds_toArray, List.set_cons_zero, List.set_cons_succ]
                      refine wpAnyH_take (i := 5) (v := .int .i64 (a1 : Int)) (lit rfl) (by kernel_rfl) (by kernel_rfl) (by kernel_rfl) (fun _ _ _ h => h) (Or.inl ⟨by rfl, ?_⟩) hSd ?_
                      · rintro w6 ⟨k1, k2⟩
                        go_simp
                      simp only [Act.put, List.setIfInBounds_toArray, List.set_cons_zero, List.set_cons_succ]
                      refine wpAnyH_take (i := 6) (v := .pointer (some ⟨g, off + a1, none⟩)) (lit rfl) (by kernel_rfl) (by kernel_rfl) (by kernel_rfl) (fun _ _ _ h => h) (Or.inl ⟨by rfl, ?_⟩) hSd ?_
                      · rintro w6 ⟨k1, k2⟩
                        go_simp
                      simp only [Act.put, List.setIfInBounds_toArray, List.set_cons_zero, List.set_cons_succ]
                      refine wpAnyH_take (i := 7) (v := .int .u64 (x : Int)) (lit rfl) (by kernel_rfl) (by kernel_rfl) (by kernel_rfl) (fun _ _ _ h => h) (Or.inl ⟨by rfl, ?_⟩) hSd ?_
                      · rintro w6 ⟨k1, k2⟩
                        go_simp
                      simp only [Act.put, List.setIfInBounds_toArray, List.set_cons_zero, List.set_cons_succ]
                      refine wpAnyH_take (i := 8) (v := .slice (some ⟨g, off, none⟩) n c) (lit rfl) (by kernel_rfl) (by kernel_rfl) (by kernel_rfl) (fun _ _ _ h => h) (Or.inl ⟨by rfl, ?_⟩) hSd ?_
                      · rintro w6 ⟨k1, k2⟩
                        go_simp
                      simp only [Act.put, List.setIfInBounds_toArray, List.set_cons_zero, List.set_cons_succ]
                      refine wpAnyH_take (i := 9) (v := .int .i64 (p0 : Int)) (lit rfl) (by kernel_rfl) (by kernel_rfl) (by kernel_rfl) (fun _ _ _ h => h) (Or.inl ⟨by rfl, ?_⟩) hSd ?_
                      · rintro w6 ⟨k1, k2⟩
                        go_simp
                      simp only [Act.put, List.setIfInBounds_toArray, List.set_cons_zero, List.set_cons_succ]
                      refine wpAnyH_take (i := 10) (v := .pointer (some ⟨g, off + p0, none⟩)) (lit rfl) (by kernel_rfl) (by kernel_rfl) (by kernel_rfl) (fun _ _ _ h => h) (Or.inl ⟨by rfl, ?_⟩) hSd ?_
                      · rintro w6 ⟨k1, k2⟩
                        go_simp
                      simp only [Act.put, List.setIfInBounds_toArray, List.set_cons_zero, List.set_cons_succ]
                      refine wpAnyH_take (i := 11) (v := .int .u64 (y : Int)) (lit rfl) (by kernel_rfl) (by kernel_rfl) (by kernel_rfl) (fun _ _ _ h => h) (Or.inl ⟨by rfl, ?_⟩) hSd ?_
                      · rintro w6 ⟨k1, k2⟩
                        go_simp
                      simp only [Act.put, List.setIfInBounds_toArray, List.set_cons_zero, List.set_cons_succ]
                      refine wpAnyH_ready (rs := [12]) (by kernel_rfl) (by simp) ?_
                      refine AllReadyH.cons (lit rfl) (fun K5 hK5 => ?_) AllReadyH.nil
                      go_simp
                      go_at_call 28
                      (with_reducible refine (HLS.out _ _ _).mono ?_)
                      rintro e7 w7 ⟨rfl, rfl⟩
                      rw [HL.out]
                      refine hK5.out _ _ hSd (fun _ => ?_)
                      clear hK5 K5
                      refine wpAnyH_take (i := 13) (v := .bool true) (lit rfl) (by kernel_rfl) (by kernel_rfl) (by kernel_rfl) (fun _ _ _ h => h) (Or.inl ⟨by rfl, ?_⟩) hSd ?_
                      · rintro w6 ⟨k1, k2⟩
                        go_simp
                      simp only [Act.put, List.setIfInBounds_toArray, List.set_cons_zero, List.set_cons_succ]
                      refine wpAnyH_take (i := 14) (v := .bool true) (lit rfl) (by kernel_rfl) (by kernel_rfl) (by kernel_rfl) (fun _ _ _ h => h) (Or.inl ⟨by rfl, ?_⟩) hSd ?_
                      · rintro w6 ⟨k1, k2⟩
                        go_simp
                      simp only [Act.put, List.setIfInBounds_toArray, List.set_cons_zero, List.set_cons_succ]
                      refine wpAnyH_done (by kernel_rfl) ?_ _
                      refine hK _ _ ?_
                      clear ca cb hSd HL bx0 bx1 by0 by1 hwa haI
                      go_wp2_with (first
                        | (go_at_call 29; (with_reducible refine (HPE.out _ L1.out).mono ?_); rintro e w8 ⟨rfl, h9, ke1, ke2⟩; have E1 := Lib.hid h9; have KE := Lib.hid (And.intro ke1 ke2); clear ke1 ke2 h9))
                      have k1 := KE.out.1
                      have k2 := KE.out.2
                      go_roundw
                      case rel => exact ⟨mid, b, lim, true, true, _, rfl, rfl, rfl, rfl, rfl, by omega, by omega, by omega, E1.out, by rw [← HTL.out, HTE.out k1 k2], by omega⟩
                      case measure => simp [intOf]; omega
                    · have HL := Lib.hid hv
                      have HV : Hid (ltU dk[a - 1]! dk[p0]! = true) := Lib.hid (by rw [ha1, hx, hy]; exact hv)
                      clear hv hx hy ha1
                      obtain ⟨r, hr⟩ : ∃ r, partition ltU dk a b p0 = r := ⟨_, rfl⟩
                      obtain ⟨k1, k2, k3⟩ := partition_holds ltU swoU dk a b p0 hp1 hp2 (by rw [HDS.out]; exact hbn)
                      have HPT := Lib.hid (fun w h => oPartU_any (g := g) (off := off) c a b p0 dk W0 w h hp1 hp2 hbn)
                      rw [hr] at k1 k2 HPT
                      obtain ⟨mid, ap, d4⟩ := r
                      dsimp only at k1 k2 HPT
                      have HTT := Lib.hid (tailU_part (lim := lim) (wb := true) (wp := true) (Or.inr HV.out) hr k1 k2)
                      obtain ⟨ll, hll⟩ : ∃ ll : Nat, mid - a = ll := ⟨_, rfl⟩
                      obtain ⟨rl, hrl⟩ : ∃ rl : Nat, b - mid = rl := ⟨_, rfl⟩
                      have hll1 : (mid : Int) - (a : Int) = (ll : Int) := by omega
                      have hrl1 : (b : Int) - (mid : Int) = (rl : Int) := by omega
                      clear hr k3
                      go_wp2
                      rename_i K hK
                      refine wp_held (fun w' : World => w'.cell? ⟨g, off + a1, none⟩ = some (.int .u64 (x : Int)) ∧ w'.cell? ⟨g, off + p0, none⟩ = some (.int .u64 (y : Int))) K hmx ?_ (fun _ _ h => h)
                      refine wpAnyH_take (i := 0) (v := .int .i64 (a : Int)) (lit rfl) (by kernel_rfl) (by kernel_rfl) (by kernel_rfl) (fun _ _ _ h => h) (Or.inl ⟨by rfl, ?_⟩) hSd ?_
                      · rintro w6 ⟨k1, k2⟩
                        go_simp
                      simp only [Act.put, List.setIfInBounds_toArray, List.set_cons_zero, List.set_cons_succ]
                      refine wpAnyH_take (i := 1) (v := .bool true) (lit rfl) (by kernel_rfl) (by kernel_rfl) (by kernel_rfl) (fun _ _ _ h => h) (Or.inl ⟨by rfl, ?_⟩) hSd ?_
                      · rintro w6 ⟨k1, k2⟩
                        go_simp
                      simp only [Act.put, List.setIfInBounds_toArray, List.set_cons_zero, List.set_cons_succ]
                      refine wpAnyH_take (i := 2) (v := .bool true) (lit rfl) (by kernel_rfl) (by kernel_rfl) (by kernel_rfl) (fun _ _ _ h => h) (Or.inl ⟨by rfl, ?_⟩) hSd ?_
                      · rintro w6 ⟨k1, k2⟩
                        go_simp
                      simp only [Act.put, List.setIfInBounds_toArray, List.set_cons_zero, List.set_cons_succ]
                      refine wpAnyH_take (i := 3) (v := .slice (some ⟨g, off, none⟩) n c) (lit rfl) (by kernel_rfl) (by kernel_rfl) (by kernel_rfl) (fun _ _ _ h => h) (Or.inl ⟨by rfl, ?_⟩) hSd ?_
                      · rintro w6 ⟨k1, k2⟩
                        go_simp
                      simp only [Act.put, List.setIfInBounds_toArray, List.set_cons_zero, List.set_cons_succ]
                      refine wpAnyH_take (i := 4) (v := .int .i64 (a : Int)) (lit rfl) (by kernel_rfl) (by kernel_rfl) (by kernel_rfl) (fun _ _ _ h => h) (Or.inl ⟨by rfl, ?_⟩) hSd ?_
                      · rintro w6 ⟨k1, k2⟩
                        go_simp
                      simp only [Act.put, List.setIfInBounds_toArray, List.set_cons_zero, List.set_cons_succ]
                      refine wpAnyH_take (i := 5) (v := .int .i64 (a1 : Int)) (lit rfl) (by kernel_rfl) (by kernel_rfl) (by kernel_rfl) (fun _ _ _ h => h) (Or.inl ⟨by rfl, ?_⟩) hSd ?_
                      · rintro w6 ⟨k1, k2⟩
                        go_simp
                      simp only [Act.put, List.setIfInBounds_toArray, List.set_cons_zero, List.set_cons_succ]
                      refine wpAnyH_take (i := 6) (v := .pointer (some ⟨g, off + a1, none⟩)) (lit rfl) (by kernel_rfl) (by kernel_rfl) (by kernel_rfl) (fun _ _ _ h => h) (Or.inl ⟨by rfl, ?_⟩) hSd ?_
                      · rintro w6 ⟨k1, k2⟩
                        go_simp
                      simp only [Act.put, List.setIfInBounds_toArray, List.set_cons_zero, List.set_cons_succ]
                      refine wpAnyH_take (i := 7) (v := .int .u64 (x : Int)) (lit rfl) (by kernel_rfl) (by kernel_rfl) (by kernel_rfl) (fun _ _ _ h => h) (Or.inl ⟨by rfl, ?_⟩) hSd ?_
                      · rintro w6 ⟨k1, k2⟩
                        go_simp
                      simp only [Act.put, List.setIfInBounds_toArray, List.set_cons_zero, List.set_cons_succ]
                      refine wpAnyH_take (i := 8) (v := .slice (some ⟨g, off, none⟩) n c) (lit rfl) (by kernel_rfl) (by kernel_rfl) (by kernel_rfl) (fun _ _ _ h => h) (Or.inl ⟨by rfl, ?_⟩) hSd ?_
                      · rintro w6 ⟨k1, k2⟩
                        go_simp
                      simp only [Act.put, List.setIfInBounds_toArray, List.set_cons_zero, List.set_cons_succ]
                      refine wpAnyH_take (i := 9) (v := .int .i64 (p0 : Int)) (lit rfl) (by kernel_rfl) (by kernel_rfl) (by kernel_rfl) (fun _ _ _ h => h) (Or.inl ⟨by rfl, ?_⟩) hSd ?_
                      · rintro w6 ⟨k1, k2⟩
                        go_simp
                      simp only [Act.put, List.setIfInBounds_toArray, List.set_cons_zero, List.set_cons_succ]
                      refine wpAnyH_take (i := 10) (v := .pointer (some ⟨g, off + p0, none⟩)) (lit rfl) (by kernel_rfl) (by kernel_rfl) (by kernel_rfl) (fun _ _ _ h => h) (Or.inl ⟨by rfl, ?_⟩) hSd ?_
                      · rintro w6 ⟨k1, k2⟩
                        go_simp
                      simp only [Act.put, List.setIfInBounds_toArray, List.set_cons_zero, List.set_cons_succ]
                      refine wpAnyH_take (i := 11) (v := .int .u64 (y : Int)) (lit rfl) (by kernel_rfl) (by kernel_rfl) (by kernel_rfl) (fun _ _ _ h => h) (Or.inl ⟨by rfl, ?_⟩) hSd ?_
                      · rintro w6 ⟨k1, k2⟩
                        go_simp
                      simp only [Act.put, List.setIfInBounds_toArray, List.set_cons_zero, List.set_cons_succ]
                      refine wpAnyH_ready (rs := [12]) (by kernel_rfl) (by simp) ?_
                      refine AllReadyH.cons (lit rfl) (fun K5 hK5 => ?_) AllReadyH.nil
                      go_simp
                      go_at_call 28
                      (with_reducible refine (HLS.out _ _ _).mono ?_)
                      rintro e7 w7 ⟨rfl, rfl⟩
                      rw [HL.out]
                      refine hK5.out _ _ hSd (fun _ => ?_)
                      clear hK5 K5
                      refine wpAnyH_take (i := 13) (v := .bool false) (lit rfl) (by kernel_rfl) (by kernel_rfl) (by kernel_rfl) (fun _ _ _ h => h) (Or.inl ⟨by rfl, ?_⟩) hSd ?_
                      · rintro w6 ⟨k1, k2⟩
                        go_simp
                      simp only [Act.put, List.setIfInBounds_toArray, List.set_cons_zero, List.set_cons_succ]
                      refine wpAnyH_take (i := 14) (v := .bool false) (lit rfl) (by kernel_rfl) (by kernel_rfl) (by kernel_rfl) (fun _ _ _ h => h) (Or.inl ⟨by rfl, ?_⟩) hSd ?_
                      · rintro w6 ⟨k1, k2⟩
                        go_simp
                      simp only [Act.put, List.setIfInBounds_toArray, List.set_cons_zero, List.set_cons_succ]
                      refine wpAnyH_done (by kernel_rfl) ?_ _
                      refine hK _ _ ?_
                      clear ca cb hSd HL bx0 bx1 by0 by1 hwa haI
                      by_cases hlr : mid - a < b - mid
                      · have g9 : (ll : Int) < (rl : Int) := by omega
                        go_wp2_with (first
                          | (go_at_call 30; (with_reducible refine (HPT.out _ L1.out).mono ?_); rintro e w8 ⟨rfl, h9⟩; have T1 := Lib.hid h9; clear h9)
                          | (go_at_call 20; (with_reducible refine (IH.out a mid lim d4 _ T1.out (by omega) (by omega) (by omega) (by omega)).mono ?_); rintro e w8 ⟨rfl, h9⟩; have Q1 := Lib.hid h9; clear h9))
                        go_roundw
                        case rel => exact ⟨mid + 1, b, lim, _, ap, _, by go_num, rfl, rfl, congrArg Value.bool (show decide (q8 ≤ ll) = decide (mid - a ≥ (b - a) / 8) from decide_eq_decide.2 (by omega)), rfl, by omega, by omega, by omega, Q1.out, by rw [← HTL.out, HTT.out, if_pos hlr], by omega⟩
                        case measure => simp [intOf]; omega
                      · have g9 : ¬ (ll : Int) < (rl : Int) := by omega
                        have IHR := Lib.hid (fun w h => IH.out (mid + 1) b lim d4 w h (by omega) (by omega) hbn (by omega))
                        rw [show ((mid + 1 : Nat) : Int) = (mid : Int) + 1 by omega] at IHR
                        go_wp2_with (first
                          | (go_at_call 30; (with_reducible refine (HPT.out _ L1.out).mono ?_); rintro e w8 ⟨rfl, h9⟩; have T1 := Lib.hid h9; clear h9)
                          | (go_at_call 20; (with_reducible refine (IHR.out _ T1.out).mono ?_); rintro e w8 ⟨rfl, h9⟩; have Q1 := Lib.hid h9; clear h9))
                        go_roundw
                        case rel => exact ⟨a, mid, lim, _, ap, _, rfl, rfl, rfl, congrArg Value.bool (show decide (q8 ≤ rl) = decide (b - mid ≥ (b - a) / 8) from decide_eq_decide.2 (by omega)), rfl, by omega, by omega, by omega, Q1.out, by rw [← HTL.out, HTT.out, if_neg hlr], by omega⟩
                        case measure => simp [intOf]; omega
                  · have ga0 : ¬ (0 : Int) < (a : Int) := by omega
                    have L1 := Lib.hid C1.out.drew
                    obtain ⟨r, hr⟩ : ∃ r, partition ltU dk a b p0 = r := ⟨_, rfl⟩
                    obtain ⟨k1, k2, k3⟩ := partition_holds ltU swoU dk a b p0 hp1 hp2 (by rw [HDS.out]; exact hbn)
                    have HPT := Lib.hid (fun w h => oPartU_any (g := g) (off := off) c a b p0 dk W0 w h hp1 hp2 hbn)
                    rw [hr] at k1 k2 HPT
                    obtain ⟨mid, ap, d4⟩ := r
                    dsimp only at k1 k2 HPT
                    have HTT := Lib.hid (tailU_part (lim := lim) (wb := true) (wp := true) (Or.inl ha0) hr k1 k2)
                    obtain ⟨ll, hll⟩ : ∃ ll : Nat, mid - a = ll := ⟨_, rfl⟩
                    obtain ⟨rl, hrl⟩ : ∃ rl : Nat, b - mid = rl := ⟨_, rfl⟩
                    have hll1 : (mid : Int) - (a : Int) = (ll : Int) := by omega
                    have hrl1 : (b : Int) - (mid : Int) = (rl : Int) := by omega
                    clear hr k3
                    go_wp2
                    rename_i K hK
                    refine wp_held (fun _ : World => True) K hmx ?_ (fun _ _ h => h)
                    refine wpAnyH_take (i := 0) (v := .int .i64 (a : Int)) (lit rfl) (by kernel_rfl) (by kernel_rfl) (by kernel_rfl) (fun _ _ _ h => h) (Or.inl ⟨by rfl, ?_⟩) trivial ?_
                    · rintro w6 k1
                      go_simp
                    simp only [Act.put, List.setIfInBounds_toArray, List.set_cons_zero, List.set_cons_succ]
                    refine wpAnyH_take (i := 1) (v := .bool false) (lit rfl) (by kernel_rfl) (by kernel_rfl) (by kernel_rfl) (fun _ _ _ h => h) (Or.inl ⟨by rfl, ?_⟩) trivial ?_
                    · rintro w6 k1
                      go_simp
                    simp only [Act.put, List.setIfInBounds_toArray, List.set_cons_zero, List.set_cons_succ]
                    refine wpAnyH_take (i := 2) (v := .bool false) (lit rfl) (by kernel_rfl) (by kernel_rfl) (by kernel_rfl) (fun _ _ _ h => h) (Or.inl ⟨by rfl, ?_⟩) trivial ?_
                    · rintro w6 k1
                      go_simp
                    simp only [Act.put, List.setIfInBounds_toArray, List.set_cons_zero, List.set_cons_succ]
                    refine wpAnyH_take (i := 3) (v := undef) (lit rfl) (by kernel_rfl) (by kernel_rfl) (by kernel_rfl) (fun _ _ _ h => h) (Or.inr ⟨by rfl, rfl⟩) trivial ?_
                    simp only [Act.put, List.setIfInBounds_toArray, List.set_cons_zero, List.set_cons_succ]
                    refine wpAnyH_take (i := 4) (v := undef) (lit rfl) (by kernel_rfl) (by kernel_rfl) (by kernel_rfl) (fun _ _ _ h => h) (Or.inr ⟨by rfl, rfl⟩) trivial ?_
                    simp only [Act.put, List.setIfInBounds_toArray, List.set_cons_zero, List.set_cons_succ]
                    refine wpAnyH_take (i := 5) (v := undef) (lit rfl) (by kernel_rfl) (by kernel_rfl) (by kernel_rfl) (fun _ _ _ h => h) (Or.inr ⟨by rfl, rfl⟩) trivial ?_
                    simp only [Act.put, List.setIfInBounds_toArray, List.set_cons_zero, List.set_cons_succ]
                    refine wpAnyH_take (i := 6) (v := undef) (lit rfl) (by kernel_rfl) (by kernel_rfl) (by kernel_rfl) (fun _ _ _ h => h) (Or.inr ⟨by rfl, rfl⟩) trivial ?_
                    simp only [Act.put, List.setIfInBounds_toArray, List.set_cons_zero, List.set_cons_succ]
                    refine wpAnyH_take (i := 7) (v := undef) (lit rfl) (by kernel_rfl) (by kernel_rfl) (by kernel_rfl) (fun _ _ _ h => h) (Or.inr ⟨by rfl, rfl⟩) trivial ?_
                    simp only [Act.put, List.setIfInBounds_toArray, List.set_cons_zero, List.set_cons_succ]
                    refine wpAnyH_take (i := 8) (v := undef) (lit rfl) (by kernel_rfl) (by kernel_rfl) (by kernel_rfl) (fun _ _ _ h => h) (Or.inr ⟨by rfl, rfl⟩) trivial ?_
                    simp only [Act.put, List.setIfInBounds_toArray, List.set_cons_zero, List.set_cons_succ]
                    refine wpAnyH_take (i := 9) (v := undef) (lit rfl) (by kernel_rfl) (by kernel_rfl) (by kernel_rfl) (fun _ _ _ h => h) (Or.inr ⟨by rfl, rfl⟩) trivial ?_
                    simp only [Act.put, List.setIfInBounds_toArray, List.set_cons_zero, List.set_cons_succ]
                    refine wpAnyH_take (i := 10) (v := undef) (lit rfl) (by kernel_rfl) (by kernel_rfl) (by kernel_rfl) (fun _ _ _ h => h) (Or.inr ⟨by rfl, rfl⟩) trivial ?_
                    simp only [Act.put, List.setIfInBounds_toArray, List.set_cons_zero, List.set_cons_succ]
                    refine wpAnyH_take (i := 11) (v := undef) (lit rfl) (by kernel_rfl) (by kernel_rfl) (by kernel_rfl) (fun _ _ _ h => h) (Or.inr ⟨by rfl, rfl⟩) trivial ?_
                    simp only [Act.put, List.setIfInBounds_toArray, List.set_cons_zero, List.set_cons_succ]
                    refine wpAnyH_take (i := 12) (v := undef) (lit rfl) (by kernel_rfl) (by kernel_rfl) (by kernel_rfl) (fun _ _ _ h => h) (Or.inr ⟨by rfl, rfl⟩) trivial ?_
                    simp only [Act.put, List.setIfInBounds_toArray, List.set_cons_zero, List.set_cons_succ]
                    refine wpAnyH_take (i := 13) (v := undef) (lit rfl) (by kernel_rfl) (by kernel_rfl) (by kernel_rfl) (fun _ _ _ h => h) (Or.inr ⟨by rfl, rfl⟩) trivial ?_
                    simp only [Act.put, List.setIfInBounds_toArray, List.set_cons_zero, List.set_cons_succ]
                    refine wpAnyH_take (i := 14) (v := .bool false) (lit rfl) (by kernel_rfl) (by kernel_rfl) (by kernel_rfl) (fun _ _ _ h => h) (Or.inl ⟨by rfl, ?_⟩) trivial ?_
                    · rintro w6 k1
                      go_simp
                    simp only [Act.put, List.setIfInBounds_toArray, List.set_cons_zero, List.set_cons_succ]
                    refine wpAnyH_done (by kernel_rfl) ?_ _
                    refine hK _ _ ?_
                    by_cases hlr : mid - a < b - mid
                    · have g9 : (ll : Int) < (rl : Int) := by omega
                      go_wp2_with (first
                        | (go_at_call 30; (with_reducible refine (HPT.out _ L1.out).mono ?_); rintro e w8 ⟨rfl, h9⟩; have T1 := Lib.hid h9; clear h9)
                        | (go_at_call 20; (with_reducible refine (IH.out a mid lim d4 _ T1.out (by omega) (by omega) (by omega) (by omega)).mono ?_); rintro e w8 ⟨rfl, h9⟩; have Q1 := Lib.hid h9; clear h9))
                      go_roundw
                      case rel => exact ⟨mid + 1, b, lim, _, ap, _, by go_num, rfl, rfl, congrArg Value.bool (show decide (q8 ≤ ll) = decide (mid - a ≥ (b - a) / 8) from decide_eq_decide.2 (by omega)), rfl, by omega, by omega, by omega, Q1.out, by rw [← HTL.out, HTT.out, if_pos hlr], by omega⟩
                      case measure => simp [intOf]; omega
                    · have g9 : ¬ (ll : Int) < (rl : Int) := by omega
                      have IHR := Lib.hid (fun w h => IH.out (mid + 1) b lim d4 w h (by omega) (by omega) hbn (by omega))
                      rw [show ((mid + 1 : Nat) : Int) = (mid : Int) + 1 by omega] at IHR
                      go_wp2_with (first
                        | (go_at_call 30; (with_reducible refine (HPT.out _ L1.out).mono ?_); rintro e w8 ⟨rfl, h9⟩; have T1 := Lib.hid h9; clear h9)
                        | (go_at_call 20; (with_reducible refine (IHR.out _ T1.out).mono ?_); rintro e w8 ⟨rfl, h9⟩; have Q1 := Lib.hid h9; clear h9))
                      go_roundw
                      case rel => exact ⟨a, mid, lim, _, ap, _, rfl, rfl, rfl, congrArg Value.bool (show decide (q8 ≤ rl) = decide (b - mid ≥ (b - a) / 8) from decide_eq_decide.2 (by omega)), rfl, by omega, by omega, by omega, Q1.out, by rw [← HTL.out, HTT.out, if_neg hlr], by omega⟩
                      case measure => simp [intOf]; omega
              case increasing =>
                simp only [hintU] at hcp
                have HCP := Lib.hid hcp
                clear hcp
                have hp1 := hch.1
                have hp2 := hch.2
                have HTL : Hid (pdqUPi (partialInsertionSort ltU dk a b) a b lim p0 true true = pdq ltU d a0 b0 lim0 true true) := Lib.hid (by rw [← K4.out, HU.out]; rfl)
                have HPI := Lib.hid (fun w h => oPartInsU_any (g := g) (off := off) c a b dk W0 w h (by omega) hbn)
                generalize partialInsertionSort ltU dk a b = r at HPI HTL
                obtain ⟨d3, z⟩ := r
                dsimp only at HPI
                cases z
                · have HTL : Hid (pdqUTail d3 a b lim p0 true true = pdq ltU d a0 b0 lim0 true true) := Lib.hid HTL.out
                  go_wp2_with (first
                    | (go_at_call 25; (with_reducible refine (HCP.out _ K1.out).mono ?_); rintro e w8 ⟨rfl, h9⟩; have C1 := Lib.hid h9; clear h9)
                    | (go_at_call 27; (with_reducible refine (HPI.out _ C1.out).mono ?_); rintro e w8 ⟨rfl, h9⟩; have P1 := Lib.hid h9; clear h9))
                  have HDS := Lib.hid P1.out.size
                  as_aux_lemma =>
                    by_cases ha0 : 0 < a
                    · have ga0 : (0 : Int) < (a : Int) := by omega
                      obtain ⟨a1, ha1⟩ : ∃ a1, a - 1 = a1 := ⟨_, rfl⟩
                      have haI : (a : Int) - 1 = (a1 : Int) := by omega
                      have hwa : IntKind.i64.wrap (a1 : Int) = (a1 : Int) := by rw [IntKind.wrap_i64]; omega
                      have L1 := Lib.hid P1.out.drew
                      have ca := P1.out.cell a1 (by omega)
                      have cb := P1.out.cell p0 (by omega)
                      obtain ⟨x, hx⟩ : ∃ x, d3[a1]! = x := ⟨_, rfl⟩
                      obtain ⟨y, hy⟩ : ∃ y, d3[p0]! = y := ⟨_, rfl⟩
                      rw [hx] at ca
                      rw [hy] at cb
                      have bx0 : (0 : Int) ≤ (a1 : Int) := by omega
                      have bx1 : (a1 : Int) < (n : Int) := by omega
                      have by0 : (0 : Int) ≤ (p0 : Int) := by omega
                      have by1 : (p0 : Int) < (n : Int) := by omega
                      have hSd : (fun w' : World => w'.cell? ⟨g, off + a1, none⟩ = some (.int .u64 (x : Int)) ∧ w'.cell? ⟨g, off + p0, none⟩ = some (.int .u64 (y : Int))) _ := ⟨ca, cb⟩
                      cases hv : ltU x y
                      · have HL := Lib.hid hv
                        have HV : Hid (ltU d3[a - 1]! d3[p0]! = false) := Lib.hid (by rw [ha1, hx, hy]; exact hv)
                        have HPE := Lib.hid (fun w h => oPartEqU_any (g := g) (off := off) c a b p0 d3 W0 w h hp1 hp2 hbn)
                        have HTE := Lib.hid (fun h1 h2 => tailU_eq (b := b) (lim := lim) (wb := true) (wp := true) ha0 HV.out h1 h2)
                        clear hv hx hy ha1
                        generalize partitionEqual ltU d3 a b p0 = r at HPE HTE
                        obtain ⟨mid, d4⟩ := r
                        dsimp only at HPE HTE
                        go_wp2
                        rename_i K hK
                        refine wp_held (fun w' : World => w'.cell? ⟨g, off + a1, none⟩ = some (.int .u64 (x : Int)) ∧ w'.cell? ⟨g, off + p0, none⟩ = some (.int .u64 (y : Int))) K hmx ?_ (fun _ _ h => h)
                        refine wpAnyH_take (i := 0) (v := .int .i64 (a : Int)) (lit rfl) (by kernel_rfl) (by kernel_rfl) (by kernel_rfl) (fun _ _ _ h => h) (Or.inl ⟨by rfl, ?_⟩) hSd ?_
                        · rintro w6 ⟨k1, k2⟩
                          go_simp
                        simp only [Act.put, List.setIfInBounds_toArray, List.set_cons_zero, List.set_cons_succ]
                        refine wpAnyH_take (i := 1) (v := .bool true) (lit rfl) (by kernel_rfl) (by kernel_rfl) (by kernel_rfl) (fun _ _ _ h => h) (Or.inl ⟨by rfl, ?_⟩) hSd ?_
                        · rintro w6 ⟨k1, k2⟩
                          go_simp
                        simp only [Act.put, List.setIfInBounds_toArray, List.set_cons_zero, List.set_cons_succ]
                        refine wpAnyH_take (i := 2) (v := .bool true) (lit rfl) (by kernel_rfl) (by kernel_rfl) (by kernel_rfl) (fun _ _ _ h => h) (Or.inl ⟨by rfl, ?_⟩) hSd ?_
                        · rintro w6 ⟨k1, k2⟩
                          go_simp
                        simp only [Act.put, List.setIfInBounds_toArray, List.set_cons_zero, List.set_cons_succ]
                        refine wpAnyH_take (i := 3) (v := .slice (some ⟨g, off, none⟩) n c) (lit rfl) (by kernel_rfl) (by kernel_rfl) (by kernel_rfl) (fun _ _ _ h => h) (Or.inl ⟨by rfl, ?_⟩) hSd ?_
                        · rintro w6 ⟨k1, k2⟩
                          go_simp
                        simp only [Act.put, List.setIfInBounds_toArray, List.set_cons_zero, List.set_cons_succ]
                        refine wpAnyH_take (i := 4) (v := .int .i64 (a : Int)) (lit rfl) (by kernel_rfl) (by kernel_rfl) (by kernel_rfl) (fun _ _ _ h => h) (Or.inl ⟨by rfl, ?_⟩) hSd ?_
                        · rintro w6 ⟨k1, k2⟩
                          go_simp
                        simp only [Act.put, List.setIfInBounds_toArray, List.set_cons_zero, List.set_cons_succ]
                        refine wpAnyH_take (i := 5) (v := .int .i64 (a1 : Int)) (lit rfl) (by kernel_rfl) (by kernel_rfl) (by kernel_rfl) (fun _ _ _ h => h) (Or.inl ⟨by rfl, ?_⟩) hSd ?_
                        · rintro w6 ⟨k1, k2⟩
                          go_simp
                        simp only [Act.put, List.setIfInBounds_toArray, List.set_cons_zero, List.set_cons_succ]
                        refine wpAnyH_take (i := 6) (v := .pointer (some ⟨g, off + a1, none⟩)) (lit rfl) (by kernel_rfl) (by kernel_rfl) (by kernel_rfl) (fun _ _ _ h => h) (Or.inl ⟨by rfl, ?_⟩) hSd ?_
                        · rintro w6 ⟨k1, k2⟩
                          go_simp
                        simp only [Act.put, List.setIfInBounds_toArray, List.set_cons_zero, List.set_cons_succ]
                        refine wpAnyH_take (i := 7) (v := .int .u64 (x : Int)) (lit rfl) (by kernel_rfl) (by kernel_rfl) (by kernel_rfl) (fun _ _ _ h => h) (Or.inl ⟨by rfl, ?_⟩) hSd ?_
                        · rintro w6 ⟨k1, k2⟩
                          go_simp
                        simp only [Act.put, List.setIfInBounds_toArray, List.set_cons_zero, List.set_cons_succ]
                        refine wpAnyH_take (i := 8) (v := .slice (some ⟨g, off, none⟩) n c) (lit rfl) (by kernel_rfl) (by kernel_rfl) (by kernel_rfl) (fun _ _ _ h => h) (Or.inl ⟨by rfl, ?_⟩) hSd ?_
                        · rintro w6 ⟨k1, k2⟩
                          go_simp
                        simp only [Act.put, List.setIfInBounds_toArray, List.set_cons_zero, List.set_cons_succ]
                        refine wpAnyH_take (i := 9) (v := .int .i64 (p0 : Int)) (lit rfl) (by kernel_rfl) (by kernel_rfl) (by kernel_rfl) (fun _ _ _ h => h) (Or.inl ⟨by rfl, ?_⟩) hSd ?_
                        · rintro w6 ⟨k1, k2⟩
                          go_simp
                        simp only [Act.put, List.setIfInBounds_toArray, List.set_cons_zero, List.set_cons_succ]
                        refine wpAnyH_take (i := 10) (v := .pointer (some ⟨g, off + p0, none⟩)) (lit rfl) (by kernel_rfl) (by kernel_rfl) (by kernel_rfl) (fun _ _ _ h => h) (Or.inl ⟨by rfl, ?_⟩) hSd ?_
                        · rintro w6 ⟨k1, k2⟩
                          go_simp
                        simp only [Act.put, List.setIfInBounds_toArray, List.set_cons_zero, List.set_cons_succ]
                        refine wpAnyH_take (i := 11) (v := .int .u64 (y : Int)) (lit rfl) (by kernel_rfl) (by kernel_rfl) (by kernel_rfl) (fun _ _ _ h => h) (Or.inl ⟨by rfl, ?_⟩) hSd ?_
                        · rintro w6 ⟨k1, k2⟩
                          go_simp
                        simp only [Act.put, List.setIfInBounds_toArray, List.set_cons_zero, List.set_cons_succ]
                        refine wpAnyH_ready (rs := [12]) (by kernel_rfl) (by simp) ?_
                        refine AllReadyH.cons (lit rfl) (fun K5 hK5 => ?_) AllReadyH.nil
                        go_simp
                        go_at_call 28
                        (with_reducible refine (HLS.out _ _ _).mono ?_)
                        rintro e7 w7 ⟨rfl, rfl⟩
                        rw [HL.out]
                        refine hK5.out _ _ hSd (fun _ => ?_)
                        clear hK5 K5
                        refine wpAnyH_take (i := 13) (v := .bool true) (lit rfl) (by kernel_rfl) (by kernel_rfl) (by kernel_rfl) (fun _ _ _ h => h) (Or.inl ⟨by rfl, ?_⟩) hSd ?_
                        · rintro w6 ⟨k1, k2⟩
                          go_simp
                        simp only [Act.put, List.setIfInBounds_toArray, List.set_cons_zero, List.set_cons_succ]
                        refine wpAnyH_take (i := 14) (v := .bool true) (lit rfl) (by kernel_rfl) (by kernel_rfl) (by kernel_rfl) (fun _ _ _ h => h) (Or.inl ⟨by rfl, ?_⟩) hSd ?_
                        · rintro w6 ⟨k1, k2⟩
                          go_simp
                        simp only [Act.put, List.setIfInBounds_toArray, List.set_cons_zero, List.set_cons_succ]
                        refine wpAnyH_done (by kernel_rfl) ?_ _
                        refine hK _ _ ?_
                        clear ca cb hSd HL bx0 bx1 by0 by1 hwa haI
                        go_wp2_with (first
                          | (go_at_call 29; (with_reducible refine (HPE.out _ L1.out).mono ?_); rintro e w8 ⟨rfl, h9, ke1, ke2⟩; have E1 := Lib.hid h9; have KE := Lib.hid (And.intro ke1 ke2); clear ke1 ke2 h9))
                        have k1 := KE.out.1
                        have k2 := KE.out.2
                        go_roundw
                        case rel => exact ⟨mid, b, lim, true, true, _, rfl, rfl, rfl, rfl, rfl, by omega, by omega, by omega, E1.out, by rw [← HTL.out, HTE.out k1 k2], by omega⟩
                        case measure => simp [intOf]; omega
                      · have HL := Lib.hid hv
                        have HV : Hid (ltU d3[a - 1]! d3[p0]! = true) := Lib.hid (by rw [ha1, hx, hy]; exact hv)
                        clear hv hx hy ha1
                        obtain ⟨r, hr⟩ : ∃ r, partition ltU d3 a b p0 = r := ⟨_, rfl⟩
                        obtain ⟨k1, k2, k3⟩ := partition_holds ltU swoU d3 a b p0 hp1 hp2 (by rw [HDS.out]; exact hbn)
                        have HPT := Lib.hid (fun w h => oPartU_any (g := g) (off := off) c a b p0 d3 W0 w h hp1 hp2 hbn)
                        rw [hr] at k1 k2 HPT
                        obtain ⟨mid, ap, d4⟩ := r
                        dsimp only at k1 k2 HPT
                        have HTT := Lib.hid (tailU_part (lim := lim) (wb := true) (wp := true) (Or.inr HV.out) hr k1 k2)
                        obtain ⟨ll, hll⟩ : ∃ ll : Nat, mid - a = ll := ⟨_, rfl⟩
                        obtain ⟨rl, hrl⟩ : ∃ rl : Nat, b - mid = rl := ⟨_, rfl⟩
                        have hll1 : (mid : Int) - (a : Int) = (ll : Int) := by omega
                        have hrl1 : (b : Int) - (mid : Int) = (rl : Int) := by omega
                        clear hr k3
                        go_wp2
                        rename_i K hK
                        refine wp_held (fun w' : World => w'.cell? ⟨g, off + a1, none⟩ = some (.int .u64 (x : Int)) ∧ w'.cell? ⟨g, off + p0, none⟩ = some (.int .u64 (y : Int))) K hmx ?_ (fun _ _ h => h)
                        refine wpAnyH_take (i := 0) (v := .int .i64 (a : Int)) (lit rfl) (by kernel_rfl) (by kernel_rfl) (by kernel_rfl) (fun _ _ _ h => h) (Or.inl ⟨by rfl, ?_⟩) hSd ?_
                        · rintro w6 ⟨k1, k2⟩
                          go_simp
                        simp only [Act.put, List.setIfInBounds_toArray, List.set_cons_zero, List.set_cons_succ]
                        refine wpAnyH_take (i := 1) (v := .bool true) (lit rfl) (by kernel_rfl) (by kernel_rfl) (by kernel_rfl) (fun _ _ _ h => h) (Or.inl ⟨by rfl, ?_⟩) hSd ?_
                        · rintro w6 ⟨k1, k2⟩
                          go_simp
                        simp only [Act.put, List.setIfInBounds_toArray, List.set_cons_zero, List.set_cons_succ]
                        refine wpAnyH_take (i := 2) (v := .bool true) (lit rfl) (by kernel_rfl) (by kernel_rfl) (by kernel_rfl) (fun _ _ _ h => h) (Or.inl ⟨by rfl, ?_⟩) hSd ?_
                        · rintro w6 ⟨k1, k2⟩
                          go_simp
                        simp only [Act.put, List.setIfInBounds_toArray, List.set_cons_zero, List.set_cons_succ]
                        refine wpAnyH_take (i := 3) (v := .slice (some ⟨g, off, none⟩) n c) (lit rfl) (by kernel_rfl) (by kernel_rfl) (by kernel_rfl) (fun _ _ _ h => h) (Or.inl ⟨by rfl, ?_⟩) hSd ?_
                        · rintro w6 ⟨k1, k2⟩
                          go_simp
                        simp only [Act.put, List.setIfInBounds_toArray, List.set_cons_zero, List.set_cons_succ]
                        refine wpAnyH_take (i := 4) (v := .int .i64 (a : Int)) (lit rfl) (by kernel_rfl) (by kernel_rfl) (by kernel_rfl) (fun _ _ _ h => h) (Or.inl ⟨by rfl, ?_⟩) hSd ?_
                        · rintro w6 ⟨k1, k2⟩
                          go_simp
                        simp only [Act.put, List.setIfInBounds_toArray, List.set_cons_zero, List.set_cons_succ]
                        refine wpAnyH_take (i := 5) (v := .int .i64 (a1 : Int)) (lit rfl) (by kernel_rfl) (by kernel_rfl) (by kernel_rfl) (fun _ _ _ h => h) (Or.inl ⟨by rfl, ?_⟩) hSd ?_
                        · rintro w6 ⟨k1, k2⟩
                          go_simp
                        simp only [Act.put, List.setIfInBounds_toArray, List.set_cons_zero, List.set_cons_succ]
                        refine wpAnyH_take (i := 6) (v := .pointer (some ⟨g, off + a1, none⟩)) (lit rfl) (by kernel_rfl) (by kernel_rfl) (by kernel_rfl) (fun _ _ _ h => h) (Or.inl ⟨by rfl, ?_⟩) hSd ?_
                        · rintro w6 ⟨k1, k2⟩
                          go_simp
                        simp only [Act.put, List.setIfInBounds_toArray, List.set_cons_zero, List.set_cons_succ]
                        refine wpAnyH_take (i := 7) (v := .int .u64 (x : Int)) (lit rfl) (by kernel_rfl) (by kernel_rfl) (by kernel_rfl) (fun _ _ _ h => h) (Or.inl ⟨by rfl, ?_⟩) hSd ?_
                        · rintro w6 ⟨k1, k2⟩
                          go_simp
                        simp only [Act.put, List.setIfInBounds_toArray, List.set_cons_zero, List.set_cons_succ]
                        refine wpAnyH_take (i := 8) (v := .slice (some ⟨g, off, none⟩) n c) (lit rfl) (by kernel_rfl) (by kernel_rfl) (by kernel_rfl) (fun _ _ _ h => h) (Or.inl ⟨by rfl, ?_⟩) hSd ?_
                        · rintro w6 ⟨k1, k2⟩
                          go_simp
                        simp only [Act.put, List.setIfInBounds_toArray, List.set_cons_zero, List.set_cons_succ]
                        refine wpAnyH_take (i := 9) (v := .int .i64 (p0 : Int)) (lit rfl) (by kernel_rfl) (by kernel_rfl) (by kernel_rfl) (fun _ _ _ h => h) (Or.inl ⟨by rfl, ?_⟩) hSd ?_
                        · rintro w6 ⟨k1, k2⟩
                          go_simp
                        simp only [Act.put, List.setIfInBounds_toArray, List.set_cons_zero, List.set_cons_succ]
                        refine wpAnyH_take (i := 10) (v := .pointer (some ⟨g, off + p0, none⟩)) (lit rfl) (by kernel_rfl) (by kernel_rfl) (by kernel_rfl) (fun _ _ _ h => h) (Or.inl ⟨by rfl, ?_⟩) hSd ?_
                        · rintro w6 ⟨k1, k2⟩
                          go_simp
                        simp only [Act.put, List.setIfInBounds_toArray, List.set_cons_zero, List.set_cons_succ]
                        refine wpAnyH_take (i := 11) (v := .int .u64 (y : Int)) (lit rfl) (by kernel_rfl) (by kernel_rfl) (by kernel_rfl) (fun _ _ _ h => h) (Or.inl ⟨by rfl, ?_⟩) hSd ?_
                        · rintro w6 ⟨k1, k2⟩
                          go_simp
                        simp only [Act.put, List.setIfInBounds_toArray, List.set_cons_zero, List.set_cons_succ]
                        refine wpAnyH_ready (rs := [12]) (by kernel_rfl) (by simp) ?_
                        refine AllReadyH.cons (lit rfl) (fun K5 hK5 => ?_) AllReadyH.nil
                        go_simp
                        go_at_call 28
                        (with_reducible refine (HLS.out _ _ _).mono ?_)
                        rintro e7 w7 ⟨rfl, rfl⟩
                        rw [HL.out]
                        refine hK5.out _ _ hSd (fun _ => ?_)
                        clear hK5 K5
                        refine wpAnyH_take (i := 13) (v := .bool false) (lit rfl) (by kernel_rfl) (by kernel_rfl) (by kernel_rfl) (fun _ _ _ h => h) (Or.inl ⟨by rfl, ?_⟩) hSd ?_
                        · rintro w6 ⟨k1, k2⟩
                          go_simp
                        simp only [Act.put, List.setIfInBounds_toArray, List.set_cons_zero, List.set_cons_succ]
                        refine wpAnyH_take (i := 14) (v := .bool false) (lit rfl) (by kernel_rfl) (by kernel_rfl) (by kernel_rfl) (fun _ _ _ h => h) (Or.inl ⟨by rfl, ?_⟩) hSd ?_
                        · rintro w6 ⟨k1, k2⟩
                          go_simp
                        simp only [Act.put, List.setIfInBounds_toArray, List.set_cons_zero, List.set_cons_succ]
                        refine wpAnyH_done (by kernel_rfl) ?_ _
                        refine hK _ _ ?_
                        clear ca cb hSd HL bx0 bx1 by0 by1 hwa haI
                        by_cases hlr : mid - a < b - mid
                        · have g9 : (ll : Int) < (rl : Int) := by omega
                          go_wp2_with (first
                            | (go_at_call 30; (with_reducible refine (HPT.out _ L1.out).mono ?_); rintro e w8 ⟨rfl, h9⟩; have T1 := Lib.hid h9; clear h9)
                            | (go_at_call 20; (with_reducible refine (IH.out a mid lim d4 _ T1.out (by omega) (by omega) (by omega) (by omega)).mono ?_); rintro e w8 ⟨rfl, h9⟩; have Q1 := Lib.hid h9; clear h9))
                          go_roundw
                          case rel => exact ⟨mid + 1, b, lim, _, ap, _, by go_num, rfl, rfl, congrArg Value.bool (show decide (q8 ≤ ll) = decide (mid - a ≥ (b - a) / 8) from decide_eq_decide.2 (by omega)), rfl, by omega, by omega, by omega, Q1.out, by rw [← HTL.out, HTT.out, if_pos hlr], by omega⟩
                          case measure => simp [intOf]; omega
                        · have g9 : ¬ (ll : Int) < (rl : Int) := by omega
                          have IHR := Lib.hid (fun w h => IH.out (mid + 1) b lim d4 w h (by omega) (by omega) hbn (by omega))
                          rw [show ((mid + 1 : Nat) : Int) = (mid : Int) + 1 by omega] at IHR
                          go_wp2_with (first
                            | (go_at_call 30; (with_reducible refine (HPT.out _ L1.out).mono ?_); rintro e w8 ⟨rfl, h9⟩; have T1 := Lib.hid h9; clear h9)
                            | (go_at_call 20; (with_reducible refine (IHR.out _ T1.out).mono ?_); rintro e w8 ⟨rfl, h9⟩; have Q1 := Lib.hid h9; clear h9))
                          go_roundw
                          case rel => exact ⟨a, mid, lim, _, ap, _, rfl, rfl, rfl, congrArg Value.bool (show decide (q8 ≤ rl) = decide (b - mid ≥ (b - a) / 8) from decide_eq_decide.2 (by omega)), rfl, by omega, by omega, by omega, Q1.out, by rw [← HTL.out, HTT.out, if_neg hlr], by omega⟩
                          case measure => simp [intOf]; omega
                    · have ga0 : ¬ (0 : Int) < (a : Int) := by omega
                      have L1 := Lib.hid P1.out.drew
                      obtain ⟨r, hr⟩ : ∃ r, partition ltU d3 a b p0 = r := ⟨_, rfl⟩
                      obtain ⟨k1, k2, k3⟩ := partition_holds ltU swoU d3 a b p0 hp1 hp2 (by rw [HDS.out]; exact hbn)
                      have HPT := Lib.hid (fun w h => oPartU_any (g := g) (off := off) c a b p0 d3 W0 w h hp1 hp2 hbn)
                      rw [hr] at k1 k2 HPT
                      obtain ⟨mid, ap, d4⟩ := r
                      dsimp only at k1 k2 HPT
                      have HTT := Lib.hid (tailU_part (lim := lim) (wb := true) (wp := true) (Or.inl ha0) hr k1 k2)
                      obtain ⟨ll, hll⟩ : ∃ ll : Nat, mid - a = ll := ⟨_, rfl⟩
                      obtain ⟨rl, hrl⟩ : ∃ rl : Nat, b - mid = rl := ⟨_, rfl⟩
                      have hll1 : (mid : Int) - (a : Int) = (ll : Int) := by omega
                      have hrl1 : (b : Int) - (mid : Int) = (rl : Int) := by omega
                      clear hr k3
                      go_wp2
                      rename_i K hK
                      refine wp_held (fun _ : World => True) K hmx ?_ (fun _ _ h => h)
                      refine wpAnyH_take (i := 0) (v := .int .i64 (a : Int)) (lit rfl) (by kernel_rfl) (by kernel_rfl) (by kernel_rfl) (fun _ _ _ h => h) (Or.inl ⟨by rfl, ?_⟩) trivial ?_
                      · rintro w6 k1
                        go_simp
                      simp only [Act.put, List.setIfInBounds_toArray, List.set_cons_zero, List.set_cons_succ]
                      refine wpAnyH_take (i := 1) (v := .bool false) (lit rfl) (by kernel_rfl) (by kernel_rfl) (by kernel_rfl) (fun _ _ _ h => h) (Or.inl ⟨by rfl, ?_⟩) trivial ?_
                      · rintro w6 k1
                        go_simp
                      simp only [Act.put, List.setIfInBounds_toArray, List.set_cons_zero, List.set_cons_succ]
                      refine wpAnyH_take (i := 2) (v := .bool false) (lit rfl) (by kernel_rfl) (by kernel_rfl) (by kernel_rfl) (fun _ _ _ h => h) (Or.inl ⟨by rfl, ?_⟩) trivial ?_
                      · rintro w6 k1
                        go_simp
                      simp only [Act.put, List.setIfInBounds_toArray, List.set_cons_zero, List.set_cons_succ]
                      refine wpAnyH_take (i := 3) (v := undef) (lit rfl) (by kernel_rfl) (by kernel_rfl) (by kernel_rfl) (fun _ _ _ h => h) (Or.inr ⟨by rfl, rfl⟩) trivial ?_
                      simp only [Act.put, List.setIfInBounds_toArray, List.set_cons_zero, List.set_cons_succ]
                      refine wpAnyH_take (i := 4) (v := undef) (lit rfl) (by kernel_rfl) (by kernel_rfl) (by kernel_rfl) (fun _ _ _ h => h) (Or.inr ⟨by rfl, rfl⟩) trivial ?_
                      simp only [Act.put, List.setIfInBounds_toArray, List.set_cons_zero, List.set_cons_succ]
                      refine wpAnyH_take (i := 5) (v := undef) (lit rfl) (by kernel_rfl) (by kernel_rfl) (by kernel_rfl) (fun _ _ _ h => h) (Or.inr ⟨by rfl, rfl⟩) trivial ?_
                      simp only [Act.put, List.setIfInBounds_toArray, List.set_cons_zero, List.set_cons_succ]
                      refine wpAnyH_take (i := 6) (v := undef) (lit rfl) (by kernel_rfl) (by kernel_rfl) (by kernel_rfl) (fun _ _ _ h => h) (Or.inr ⟨by rfl, rfl⟩) trivial ?_
                      simp only [Act.put, List.setIfInBounds_toArray, List.set_cons_zero, List.set_cons_succ]
                      refine wpAnyH_take (i := 7) (v := undef) (lit rfl) (by kernel_rfl) (by kernel_rfl) (by kernel_rfl) (fun _ _ _ h => h) (Or.inr ⟨by rfl, rfl⟩) trivial ?_
                      simp only [Act.put, List.setIfInBounds_toArray, List.set_cons_zero, List.set_cons_succ]
                      refine wpAnyH_take (i := 8) (v := undef) (lit rfl) (by kernel_rfl) (by kernel_rfl) (by kernel_rfl) (fun _ _ _ h => h) (Or.inr ⟨by rfl, rfl⟩) trivial ?_
                      simp only [Act.put, List.setIfInBounds_toArray, List.set_cons_zero, List.set_cons_succ]
                      refine wpAnyH_take (i := 9) (v := undef) (lit rfl) (by kernel_rfl) (by kernel_rfl) (by kernel_rfl) (fun _ _ _ h => h) (Or.inr ⟨by rfl, rfl⟩) trivial ?_
                      simp only [Act.put, List.setIfInBounds_toArray, List.set_cons_zero, List.set_cons_succ]
                      refine wpAnyH_take (i := 10) (v := undef) (lit rfl) (by kernel_rfl) (by kernel_rfl) (by kernel_rfl) (fun _ _ _ h => h) (Or.inr ⟨by rfl, rfl⟩) trivial ?_
                      simp only [Act.put, List.setIfInBounds_toArray, List.set_cons_zero, List.set_cons_succ]
                      refine wpAnyH_take (i := 11) (v := undef) (lit rfl) (by kernel_rfl) (by kernel_rfl) (by kernel_rfl) (fun _ _ _ h => h) (Or.inr ⟨by rfl, rfl⟩) trivial ?_
                      simp only [Act.put, List.setIfInBounds_toArray, List.set_cons_zero, List.set_cons_succ]
                      refine wpAnyH_take (i := 12) (v := undef) (lit rfl) (by kernel_rfl) (by kernel_rfl) (by kernel_rfl) (fun _ _ _ h => h) (Or.inr ⟨by rfl, rfl⟩) trivial ?_
                      simp only [Act.put, List.setIfInBounds_toArray, List.set_cons_zero, List.set_cons_succ]
                      refine wpAnyH_take (i := 13) (v := undef) (lit rfl) (by kernel_rfl) (by kernel_rfl) (by kernel_rfl) (fun _ _ _ h => h) (Or.inr ⟨by rfl, rfl⟩) trivial ?_
                      simp only [Act.put, List.setIfInBounds_toArray, List.set_cons_zero, List.set_cons_succ]
                      refine wpAnyH_take (i := 14) (v := .bool false) (lit rfl) (by kernel_rfl) (by kernel_rfl) (by kernel_rfl) (fun _ _ _ h => h) (Or.inl ⟨by rfl, ?_⟩) trivial ?_
                      · rintro w6 k1
                        go_simp
                      simp only [Act.put, List.setIfInBounds_toArray, List.set_cons_zero, List.set_cons_succ]
                      refine wpAnyH_done (by kernel_rfl) ?_ _
                      refine hK _ _ ?_
                      by_cases hlr : mid - a < b - mid
                      · have g9 : (ll : Int) < (rl : Int) := by omega
                        go_wp2_with (first
                          | (go_at_call 30; (with_reducible refine (HPT.out _ L1.out).mono ?_); rintro e w8 ⟨rfl, h9⟩; have T1 := Lib.hid h9; clear h9)
                          | (go_at_call 20; (with_reducible refine (IH.out a mid lim d4 _ T1.out (by omega) (by omega) (by omega) (by omega)).mono ?_); rintro e w8 ⟨rfl, h9⟩; have Q1 := Lib.hid h9; clear h9))
                        go_roundw
                        case rel => exact ⟨mid + 1, b, lim, _, ap, _, by go_num, rfl, rfl, congrArg Value.bool (show decide (q8 ≤ ll) = decide (mid - a ≥ (b - a) / 8) from decide_eq_decide.2 (by omega)), rfl, by omega, by omega, by omega, Q1.out, by rw [← HTL.out, HTT.out, if_pos hlr], by omega⟩
                        case measure => simp [intOf]; omega
                      · have g9 : ¬ (ll : Int) < (rl : Int) := by omega
                        have IHR := Lib.hid (fun w h => IH.out (mid + 1) b lim d4 w h (by omega) (by omega) hbn (by omega))
                        rw [show ((mid + 1 : Nat) : Int) = (mid : Int) + 1 by omega] at IHR
                        go_wp2_with (first
                          | (go_at_call 30; (with_reducible refine (HPT.out _ L1.out).mono ?_); rintro e w8 ⟨rfl, h9⟩; have T1 := Lib.hid h9; clear h9)
                          | (go_at_call 20; (with_reducible refine (IHR.out _ T1.out).mono ?_); rintro e w8 ⟨rfl, h9⟩; have Q1 := Lib.hid h9; clear h9))
                        go_roundw
                        case rel => exact ⟨a, mid, lim, _, ap, _, rfl, rfl, rfl, congrArg Value.bool (show decide (q8 ≤ rl) = decide (b - mid ≥ (b - a) / 8) from decide_eq_decide.2 (by omega)), rfl, by omega, by omega, by omega, Q1.out, by rw [← HTL.out, HTT.out, if_neg hlr], by omega⟩
                        case measure => simp [intOf]; omega
                · have HTL : Hid (d3 = pdq ltU d a0 b0 lim0 true true) := Lib.hid HTL.out
                  go_wp2_with (first
                    | (go_at_call 25; (with_reducible refine (HCP.out _ K1.out).mono ?_); rintro e w8 ⟨rfl, h9⟩; have C1 := Lib.hid h9; clear h9)
                    | (go_at_call 27; (with_reducible refine (HPI.out _ C1.out).mono ?_); rintro e w8 ⟨rfl, h9⟩; have P1 := Lib.hid h9; clear h9))
                  refine bodyPost_ret (results_none rfl _ _ _) rfl ?_
                  exact ⟨rfl, by rw [← HTL.out]; exact P1.out⟩
              case decreasing =>
                simp only [hintU] at hcp
                have HCP := Lib.hid hcp
                clear hcp
                obtain ⟨d2, hd2⟩ : ∃ d2, reverseRange dk a b = d2 := ⟨_, rfl⟩
                obtain ⟨p, hp⟩ : ∃ p, (b - 1) - (p0 - a) = p := ⟨_, rfl⟩
                have hp3 : (b : Int) - 1 - ((p0 : Int) - (a : Int)) = (p : Int) := by omega
                have hp1 : a ≤ p := by omega
                have hp2 : p < b := by omega
                have HRR := Lib.hid (fun w h => hd2 ▸ revU_any (g := g) (off := off) c a b dk W0 w h (by omega) (by omega) hbn)
                have HTL : Hid (pdqUPi (partialInsertionSort ltU d2 a b) a b lim p true true = pdq ltU d a0 b0 lim0 true true) := Lib.hid (by rw [← K4.out, HU.out] ; unfold pdqUC; rw [← hd2, ← hp]; rfl)
                clear hd2 hp
                have HPI := Lib.hid (fun w h => oPartInsU_any (g := g) (off := off) c a b d2 W0 w h (by omega) hbn)
                generalize partialInsertionSort ltU d2 a b = r at HPI HTL
                obtain ⟨d3, z⟩ := r
                dsimp only at HPI
                cases z
                · have HTL : Hid (pdqUTail d3 a b lim p true true = pdq ltU d a0 b0 lim0 true true) := Lib.hid HTL.out
                  go_wp2_with (first
                    | (go_at_call 25; (with_reducible refine (HCP.out _ K1.out).mono ?_); rintro e w8 ⟨rfl, h9⟩; have C1 := Lib.hid h9; clear h9)
                    | (go_at_call 26; (with_reducible refine (HRR.out _ C1.out).mono ?_); rintro e w8 ⟨rfl, h9⟩; have R1 := Lib.hid h9; clear h9)
                    | (go_at_call 27; (with_reducible refine (HPI.out _ R1.out).mono ?_); rintro e w8 ⟨rfl, h9⟩; have P1 := Lib.hid h9; clear h9))
                  have HDS := Lib.hid P1.out.size
                  as_aux_lemma =>
                    by_cases ha0 : 0 < a
                    · have ga0 : (0 : Int) < (a : Int) := by omega
                      obtain ⟨a1, ha1⟩ : ∃ a1, a - 1 = a1 := ⟨_, rfl⟩
                      have haI : (a : Int) - 1 = (a1 : Int) := by omega
                      have hwa : IntKind.i64.wrap (a1 : Int) = (a1 : Int) := by rw [IntKind.wrap_i64]; omega
                      have L1 := Lib.hid P1.out.drew
                      have ca := P1.out.cell a1 (by omega)
                      have cb := P1.out.cell p (by omega)
                      obtain ⟨x, hx⟩ : ∃ x, d3[a1]! = x := ⟨_, rfl⟩
                      obtain ⟨y, hy⟩ : ∃ y, d3[p]! = y := ⟨_, rfl⟩
                      rw [hx] at ca
                      rw [hy] at cb
                      have bx0 : (0 : Int) ≤ (a1 : Int) := by omega
                      have bx1 : (a1 : Int) < (n : Int) := by omega
                      have by0 : (0 : Int) ≤ (p : Int) := by omega
                      have by1 : (p : Int) < (n : Int) := by omega
                      have hSd : (fun w' : World => w'.cell? ⟨g, off + a1, none⟩ = some (.int .u64 (x : Int)) ∧ w'.cell? ⟨g, off + p, none⟩ = some (.int .u64 (y : Int))) _ := ⟨ca, cb⟩
                      cases hv : ltU x y
                      · have HL := Lib.hid hv
                        have HV : Hid (ltU d3[a - 1]! d3[p]! = false) := Lib.hid (by rw [ha1, hx, hy]; exact hv)
                        have HPE := Lib.hid (fun w h => oPartEqU_any (g := g) (off := off) c a b p d3 W0 w h hp1 hp2 hbn)
                        have HTE := Lib.hid (fun h1 h2 => tailU_eq (b := b) (lim := lim) (wb := true) (wp := true) ha0 HV.out h1 h2)
                        clear hv hx hy ha1
                        generalize partitionEqual ltU d3 a b p = r at HPE HTE
                        obtain ⟨mid, d4⟩ := r
                        dsimp only at HPE HTE
                        go_wp2
                        rename_i K hK
                        refine wp_held (fun w' : World => w'.cell? ⟨g, off + a1, none⟩ = some (.int .u64 (x : Int)) ∧ w'.cell? ⟨g, off + p, none⟩ = some (.int .u64 (y : Int))) K hmx ?_ (fun _ _ h => h)
                        refine wpAnyH_take (i := 0) (v := .int .i64 (a : Int)) (lit rfl) (by kernel_rfl) (by kernel_rfl) (by kernel_rfl) (fun _ _ _ h => h) (Or.inl ⟨by rfl, ?_⟩) hSd ?_
                        · rintro w6 ⟨k1, k2⟩
                          go_simp
                        simp only [Act.put, List.setIfInBounds_toArray, List.set_cons_zero, List.set_cons_succ]
                        refine wpAnyH_take (i := 1) (v := .bool true) (lit rfl) (by kernel_rfl) (by kernel_rfl) (by kernel_rfl) (fun _ _ _ h => h) (Or.inl ⟨by rfl, ?_⟩) hSd ?_
                        · rintro w6 ⟨k1, k2⟩
                          go_simp
                        simp only [Act.put, List.setIfInBounds_toArray, List.set_cons_zero, List.set_cons_succ]
                        refine wpAnyH_take (i := 2) (v := .bool true) (lit rfl) (by kernel_rfl) (by kernel_rfl) (by kernel_rfl) (fun _ _ _ h => h) (Or.inl ⟨by rfl, ?_⟩) hSd ?_
                        · rintro w6 ⟨k1, k2⟩
                          go_simp
                        simp only [Act.put, List.setIfInBounds_toArray, List.set_cons_zero, List.set_cons_succ]
                        refine wpAnyH_take (i := 3) (v := .slice (some ⟨g, off, none⟩) n c) (lit rfl) (by kernel_rfl) (by kernel_rfl) (by kernel_rfl) (fun _ _ _ h => h) (Or.inl ⟨by rfl, ?_⟩) hSd ?_
                        · rintro w6 ⟨k1, k2⟩
                          go_simp
                        simp only [Act.put, List.setIfInBounds_toArray, List.set_cons_zero, List.set_cons_succ]
                        refine wpAnyH_take (i := 4) (v := .int .i64 (a : Int)) (lit rfl) (by kernel_rfl) (by kernel_rfl) (by kernel_rfl) (fun _ _ _ h => h) (Or.inl ⟨by rfl, ?_⟩) hSd ?_
                        · rintro w6 ⟨k1, k2⟩
                          go_simp
                        simp only [Act.put, List.setIfInBounds_toArray, List.set_cons_zero, List.set_cons_succ]
                        refine wpAnyH_take (i := 5) (v := .int .i64 (a1 : Int)) (lit rfl) (by kernel_rfl) (by kernel_rfl) (by kernel_rfl) (fun _ _ _ h => h) (Or.inl ⟨by rfl, ?_⟩) hSd ?_
                        · rintro w6 ⟨k1, k2⟩
                          go_simp
                        simp only [Act.put, List.setIfInBounds_toArray, List.set_cons_zero, List.set_cons_succ]
                        refine wpAnyH_take (i := 6) (v := .pointer (some ⟨g, off + a1, none⟩)) (lit rfl) (by kernel_rfl) (by kernel_rfl) (by kernel_rfl) (fun _ _ _ h => h) (Or.inl ⟨by rfl, ?_⟩) hSd ?_
                        · rintro w6 ⟨k1, k2⟩
                          go_simp
                        simp only [Act.put, List.setIfInBounds_toArray, List.set_cons_zero, List.set_cons_succ]
                        refine wpAnyH_take (i := 7) (v := .int .u64 (x : Int)) (lit rfl) (by kernel_rfl) (by kernel_rfl) (by kernel_rfl) (fun _ _ _ h => h) (Or.inl ⟨by rfl, ?_⟩) hSd ?_
                        · rintro w6 ⟨k1, k2⟩
                          go_simp
                        simp only [Act.put, List.setIfInBounds_toArray, List.set_cons_zero, List.set_cons_succ]
                        refine wpAnyH_take (i := 8) (v := .slice (some ⟨g, off, none⟩) n c) (lit rfl) (by kernel_rfl) (by kernel_rfl) (by kernel_rfl) (fun _ _ _ h => h) (Or.inl ⟨by rfl, ?_⟩) hSd ?_
                        · rintro w6 ⟨k1, k2⟩
                          go_simp
                        simp only [Act.put, List.setIfInBounds_toArray, List.set_cons_zero, List.set_cons_succ]
                        refine wpAnyH_take (i := 9) (v := .int .i64 (p : Int)) (lit rfl) (by kernel_rfl) (by kernel_rfl) (by kernel_rfl) (fun _ _ _ h => h) (Or.inl ⟨by rfl, ?_⟩) hSd ?_
                        · rintro w6 ⟨k1, k2⟩
                          go_simp
                        simp only [Act.put, List.setIfInBounds_toArray, List.set_cons_zero, List.set_cons_succ]
                        refine wpAnyH_take (i := 10) (v := .pointer (some ⟨g, off + p, none⟩)) (lit rfl) (by kernel_rfl) (by kernel_rfl) (by kernel_rfl) (fun _ _ _ h => h) (Or.inl ⟨by rfl, ?_⟩) hSd ?_
                        · rintro w6 ⟨k1, k2⟩
                          go_simp
                        simp only [Act.put, List.setIfInBounds_toArray, List.set_cons_zero, List.set_cons_succ]
                        refine wpAnyH_take (i := 11) (v := .int .u64 (y : Int)) (lit rfl) (by kernel_rfl) (by kernel_rfl) (by kernel_rfl) (fun _ _ _ h => h) (Or.inl ⟨by rfl, ?_⟩) hSd ?_
                        · rintro w6 ⟨k1, k2⟩
                          go_simp
                        simp only [Act.put, List.setIfInBounds_toArray, List.set_cons_zero, List.set_cons_succ]
                        refine wpAnyH_ready (rs := [12]) (by kernel_rfl) (by simp) ?_
                        refine AllReadyH.cons (lit rfl) (fun K5 hK5 => ?_) AllReadyH.nil
                        go_simp
                        go_at_call 28
                        (with_reducible refine (HLS.out _ _ _).mono ?_)
                        rintro e7 w7 ⟨rfl, rfl⟩
                        rw [HL.out]
                        refine hK5.out _ _ hSd (fun _ => ?_)
                        clear hK5 K5
                        refine wpAnyH_take (i := 13) (v := .bool true) (lit rfl) (by kernel_rfl) (by kernel_rfl) (by kernel_rfl) (fun _ _ _ h => h) (Or.inl ⟨by rfl, ?_⟩) hSd ?_
                        · rintro w6 ⟨k1, k2⟩
                          go_simp
                        simp only [Act.put, List.setIfInBounds_toArray, List.set_cons_zero, List.set_cons_succ]
                        refine wpAnyH_take (i := 14) (v := .bool true) (lit rfl) (by kernel_rfl) (by kernel_rfl) (by kernel_rfl) (fun _ _ _ h => h) (Or.inl ⟨by rfl, ?_⟩) hSd ?_
                        · rintro w6 ⟨k1, k2⟩
                          go_simp
                        simp only [Act.put, List.setIfInBounds_toArray, List.set_cons_zero, List.set_cons_succ]
                        refine wpAnyH_done (by kernel_rfl) ?_ _
                        refine hK _ _ ?_
                        clear ca cb hSd HL bx0 bx1 by0 by1 hwa haI
                        go_wp2_with (first
                          | (go_at_call 29; (with_reducible refine (HPE.out _ L1.out).mono ?_); rintro e w8 ⟨rfl, h9, ke1, ke2⟩; have E1 := Lib.hid h9; have KE := Lib.hid (And.intro ke1 ke2); clear ke1 ke2 h9))
                        have k1 := KE.out.1
                        have k2 := KE.out.2
                        go_roundw
                        case rel => exact ⟨mid, b, lim, true, true, _, rfl, rfl, rfl, rfl, rfl, by omega, by omega, by omega, E1.out, by rw [← HTL.out, HTE.out k1 k2], by omega⟩
                        case measure => simp [intOf]; omega
                      · have HL := Lib.hid hv
                        have HV : Hid (ltU d3[a - 1]! d3[p]! = true) := Lib.hid (by rw [ha1, hx, hy]; exact hv)
                        clear hv hx hy ha1
                        obtain ⟨r, hr⟩ : ∃ r, partition ltU d3 a b p = r := ⟨_, rfl⟩
                        obtain ⟨k1, k2, k3⟩ := partition_holds ltU swoU d3 a b p hp1 hp2 (by rw [HDS.out]; exact hbn)
                        have HPT := Lib.hid (fun w h => oPartU_any (g := g) (off := off) c a b p d3 W0 w h hp1 hp2 hbn)
                        rw [hr] at k1 k2 HPT
                        obtain ⟨mid, ap, d4⟩ := r
                        dsimp only at k1 k2 HPT
                        have HTT := Lib.hid (tailU_part (lim := lim) (wb := true) (wp := true) (Or.inr HV.out) hr k1 k2)
                        obtain ⟨ll, hll⟩ : ∃ ll : Nat, mid - a = ll := ⟨_, rfl⟩
                        obtain ⟨rl, hrl⟩ : ∃ rl : Nat, b - mid = rl := ⟨_, rfl⟩
                        have hll1 : (mid : Int) - (a : Int) = (ll : Int) := by omega
                        have hrl1 : (b : Int) - (mid : Int) = (rl : Int) := by omega
                        clear hr k3
                        go_wp2
                        rename_i K hK
                        refine wp_held (fun w' : World => w'.cell? ⟨g, off + a1, none⟩ = some (.int .u64 (x : Int)) ∧ w'.cell? ⟨g, off + p, none⟩ = some (.int .u64 (y : Int))) K hmx ?_ (fun _ _ h => h)
                        refine wpAnyH_take (i := 0) (v := .int .i64 (a : Int)) (lit rfl) (by kernel_rfl) (by kernel_rfl) (by kernel_rfl) (fun _ _ _ h => h) (Or.inl ⟨by rfl, ?_⟩) hSd ?_
                        · rintro w6 ⟨k1, k2⟩
                          go_simp
                        simp only [Act.put, List.setIfInBounds_toArray, List.set_cons_zero, List.set_cons_succ]
                        refine wpAnyH_take (i := 1) (v := .bool true) (lit rfl) (by kernel_rfl) (by kernel_rfl) (by kernel_rfl) (fun _ _ _ h => h) (Or.inl ⟨by rfl, ?_⟩) hSd ?_
                        · rintro w6 ⟨k1, k2⟩
                          go_simp
                        simp only [Act.put, List.setIfInBounds_toArray, List.set_cons_zero, List.set_cons_succ]
                        refine wpAnyH_take (i := 2) (v := .bool true) (lit rfl) (by kernel_rfl) (by kernel_rfl) (by kernel_rfl) (fun _ _ _ h => h) (Or.inl ⟨by rfl, ?_⟩) hSd ?_
                        · rintro w6 ⟨k1, k2⟩
                          go_simp
                        simp only [Act.put, List.setIfInBounds_toArray, List.set_cons_zero, List.set_cons_succ]
                        refine wpAnyH_take (i := 3) (v := .slice (some ⟨g, off, none⟩) n c) (lit rfl) (by kernel_rfl) (by kernel_rfl) (by kernel_rfl) (fun _ _ _ h => h) (Or.inl ⟨by rfl, ?_⟩) hSd ?_
                        · rintro w6 ⟨k1, k2⟩
                          go_simp
                        simp only [Act.put, List.setIfInBounds_toArray, List.set_cons_zero, List.set_cons_succ]
                        refine wpAnyH_take (i := 4) (v := .int .i64 (a : Int)) (lit rfl) (by kernel_rfl) (by kernel_rfl) (by kernel_rfl) (fun _ _ _ h => h) (Or.inl ⟨by rfl, ?_⟩) hSd ?_
                        · rintro w6 ⟨k1, k2⟩
                          go_simp
                        simp only [Act.put, List.setIfInBounds_toArray, List.set_cons_zero, List.set_cons_succ]
                        refine wpAnyH_take (i := 5) (v := .int .i64 (a1 : Int)) (lit rfl) (by kernel_rfl) (by kernel_rfl) (by kernel_rfl) (fun _ _ _ h => h) (Or.inl ⟨by rfl, ?_⟩) hSd ?_
                        · rintro w6 ⟨k1, k2⟩
                          go_simp
                        simp only [Act.put, List.setIfInBounds_toArray, List.set_cons_zero, List.set_cons_succ]
                        refine wpAnyH_take (i := 6) (v := .pointer (some ⟨g, off + a1, none⟩)) (lit rfl) (by kernel_rfl) (by kernel_rfl) (by kernel_rfl) (fun _ _ _ h => h) (Or.inl ⟨by rfl, ?_⟩) hSd ?_
                        · rintro w6 ⟨k1, k2⟩
                          go_simp
                        simp only [Act.put, List.setIfInBounds_toArray, List.set_cons_zero, List.set_cons_succ]
                        refine wpAnyH_take (i := 7) (v := .int .u64 (x : Int)) (lit rfl) (by kernel_rfl) (by kernel_rfl) (by kernel_rfl) (fun _ _ _ h => h) (Or.inl ⟨by rfl, ?_⟩) hSd ?_
                        · rintro w6 ⟨k1, k2⟩
                          go_simp
                        simp only [Act.put, List.setIfInBounds_toArray, List.set_cons_zero, List.set_cons_succ]
                        refine wpAnyH_take (i := 8) (v := .slice (some ⟨g, off, none⟩) n c) (lit rfl) (by kernel_rfl) (by kernel_rfl) (by kernel_rfl) (fun _ _ _ h => h) (Or.inl ⟨by rfl, ?_⟩) hSd ?_
                        · rintro w6 ⟨k1, k2⟩
                          go_simp
                        simp only [Act.put, List.setIfInBounds_toArray, List.set_cons_zero, List.set_cons_succ]
                        refine wpAnyH_take (i := 9) (v := .int .i64 (p : Int)) (lit rfl) (by kernel_rfl) (by kernel_rfl) (by kernel_rfl) (fun _ _ _ h => h) (Or.inl ⟨by rfl, ?_⟩) hSd ?_
                        · rintro w6 ⟨k1, k2⟩
                          go_simp
                        simp only [Act.put, List.setIfInBounds_toArray, List.set_cons_zero, List.set_cons_succ]
                        refine wpAnyH_take (i := 10) (v := .pointer (some ⟨g, off + p, none⟩)) (lit rfl) (by kernel_rfl) (by kernel_rfl) (by kernel_rfl) (fun _ _ _ h => h) (Or.inl ⟨by rfl, ?_⟩) hSd ?_
                        · rintro w6 ⟨k1, k2⟩
                          go_simp
                        simp only [Act.put, List.setIfInBounds_toArray, List.set_cons_zero, List.set_cons_succ]
                        refine wpAnyH_take (i := 11) (v := .int .u64 (y : Int)) (lit rfl) (by kernel_rfl) (by kernel_rfl) (by kernel_rfl) (fun _ _ _ h => h) (Or.inl ⟨by rfl, ?_⟩) hSd ?_
                        · rintro w6 ⟨k1, k2⟩
                          go_simp
                        simp only [Act.put, List.setIfInBounds_toArray, List.set_cons_zero, List.set_cons_succ]
                        refine wpAnyH_ready (rs := [12]) (by kernel_rfl) (by simp) ?_
                        refine AllReadyH.cons (lit rfl) (fun K5 hK5 => ?_) AllReadyH.nil
                        go_simp
                        go_at_call 28
                        (with_reducible refine (HLS.out _ _ _).mono ?_)
                        rintro e7 w7 ⟨rfl, rfl⟩
                        rw [HL.out]
                        refine hK5.out _ _ hSd (fun _ => ?_)
                        clear hK5 K5
                        refine wpAnyH_take (i := 13) (v := .bool false) (lit rfl) (by kernel_rfl) (by kernel_rfl) (by kernel_rfl) (fun _ _ _ h => h) (Or.inl ⟨by rfl, ?_⟩) hSd ?_
                        · rintro w6 ⟨k1, k2⟩
                          go_simp
                        simp only [Act.put, List.setIfInBounds_toArray, List.set_cons_zero, List.set_cons_succ]
                        refine wpAnyH_take (i := 14) (v := .bool false) (lit rfl) (by kernel_rfl) (by kernel_rfl) (by kernel_rfl) (fun _ _ _ h => h) (Or.inl ⟨by rfl, ?_⟩) hSd ?_
                        · rintro w6 ⟨k1, k2⟩
                          go_simp
                        simp only [Act.put, List.setIfInBounds_toArray, List.set_cons_zero, List.set_cons_succ]
                        refine wpAnyH_done (by kernel_rfl) ?_ _
                        refine hK _ _ ?_
                        clear ca cb hSd HL bx0 bx1 by0 by1 hwa haI
                        by_cases hlr : mid - a < b - mid
                        · have g9 : (ll : Int) < (rl : Int) := by omega
                          go_wp2_with (first
                            | (go_at_call 30; (with_reducible refine (HPT.out _ L1.out).mono ?_); rintro e w8 ⟨rfl, h9⟩; have T1 := Lib.hid h9; clear h9)
                            | (go_at_call 20; (with_reducible refine (IH.out a mid lim d4 _ T1.out (by omega) (by omega) (by omega) (by omega)).mono ?_); rintro e w8 ⟨rfl, h9⟩; have Q1 := Lib.hid h9; clear h9))
                          go_roundw
                          case rel => exact ⟨mid + 1, b, lim, _, ap, _, by go_num, rfl, rfl, congrArg Value.bool (show decide (q8 ≤ ll) = decide (mid - a ≥ (b - a) / 8) from decide_eq_decide.2 (by omega)), rfl, by omega, by omega, by omega, Q1.out, by rw [← HTL.out, HTT.out, if_pos hlr], by omega⟩
                          case measure => simp [intOf]; omega
                        · have g9 : ¬ (ll : Int) < (rl : Int) := by omega
                          have IHR := Lib.hid (fun w h => IH.out (mid + 1) b lim d4 w h (by omega) (by omega) hbn (by omega))
                          rw [show ((mid + 1 : Nat) : Int) = (mid : Int) + 1 by omega] at IHR
                          go_wp2_with (first
                            | (go_at_call 30; (with_reducible refine (HPT.out _ L1.out).mono ?_); rintro e w8 ⟨rfl, h9⟩; have T1 := Lib.hid h9; clear h9)
                            | (go_at_call 20; (with_reducible refine (IHR.out _ T1.out).mono ?_); rintro e w8 ⟨rfl, h9⟩; have Q1 := Lib.hid h9; clear h9))
                          go_roundw
                          case rel => exact ⟨a, mid, lim, _, ap, _, rfl, rfl, rfl, congrArg Value.bool (show decide (q8 ≤ rl) = decide (b - mid ≥ (b - a) / 8) from decide_eq_decide.2 (by omega)), rfl, by omega, by omega, by omega, Q1.out, by rw [← HTL.out, HTT.out, if_neg hlr], by omega⟩
                          case measure => simp [intOf]; omega
                    · have ga0 : ¬ (0 : Int) < (a : Int) := by omega
                      have L1 := Lib.hid P1.out.drew
                      obtain ⟨r, hr⟩ : ∃ r, partition ltU d3 a b p = r := ⟨_, rfl⟩
                      obtain ⟨k1, k2, k3⟩ := partition_holds ltU swoU d3 a b p hp1 hp2 (by rw [HDS.out]; exact hbn)
                      have HPT := Lib.hid (fun w h => oPartU_any (g := g) (off := off) c a b p d3 W0 w h hp1 hp2 hbn)
                      rw [hr] at k1 k2 HPT
                      obtain ⟨mid, ap, d4⟩ := r
                      dsimp only at k1 k2 HPT
                      have HTT := Lib.hid (tailU_part (lim := lim) (wb := true) (wp := true) (Or.inl ha0) hr k1 k2)
                      obtain ⟨ll, hll⟩ : ∃ ll : Nat, mid - a = ll := ⟨_, rfl⟩
                      obtain ⟨rl, hrl⟩ : ∃ rl : Nat, b - mid = rl := ⟨_, rfl⟩
                      have hll1 : (mid : Int) - (a : Int) = (ll : Int) := by omega
                      have hrl1 : (b : Int) - (mid : Int) = (rl : Int) := by omega
                      clear hr k3
                      go_wp2
                      rename_i K hK
                      refine wp_held (fun _ : World => True) K hmx ?_ (fun _ _ h => h)
                      refine wpAnyH_take (i := 0) (v := .int .i64 (a : Int)) (lit rfl) (by kernel_rfl) (by kernel_rfl) (by kernel_rfl) (fun _ _ _ h => h) (Or.inl ⟨by rfl, ?_⟩) trivial ?_
                      · rintro w6 k1
                        go_simp
                      simp only [Act.put, List.setIfInBounds_toArray, List.set_cons_zero, List.set_cons_succ]
                      refine wpAnyH_take (i := 1) (v := .bool false) (lit rfl) (by kernel_rfl) (by kernel_rfl) (by kernel_rfl) (fun _ _ _ h => h) (Or.inl ⟨by rfl, ?_⟩) trivial ?_
                      · rintro w6 k1
                        go_simp
                      simp only [Act.put, List.setIfInBounds_toArray, List.set_cons_zero, List.set_cons_succ]
                      refine wpAnyH_take (i := 2) (v := .bool false) (lit rfl) (by kernel_rfl) (by kernel_rfl) (by kernel_rfl) (fun _ _ _ h => h) (Or.inl ⟨by rfl, ?_⟩) trivial ?_
                      · rintro w6 k1
                        go_simp
                      simp only [Act.put, List.setIfInBounds_toArray, List.set_cons_zero, List.set_cons_succ]
                      refine wpAnyH_take (i := 3) (v := undef) (lit rfl) (by kernel_rfl) (by kernel_rfl) (by kernel_rfl) (fun _ _ _ h => h) (Or.inr ⟨by rfl, rfl⟩) trivial ?_
                      simp only [Act.put, List.setIfInBounds_toArray, List.set_cons_zero, List.set_cons_succ]
                      refine wpAnyH_take (i := 4) (v := undef) (lit rfl) (by kernel_rfl) (by kernel_rfl) (by kernel_rfl) (fun _ _ _ h => h) (Or.inr ⟨by rfl, rfl⟩) trivial ?_
                      simp only [Act.put, List.setIfInBounds_toArray, List.set_cons_zero, List.set_cons_succ]
                      refine wpAnyH_take (i := 5) (v := undef) (lit rfl) (by kernel_rfl) (by kernel_rfl) (by kernel_rfl) (fun _ _ _ h => h) (Or.inr ⟨by rfl, rfl⟩) trivial ?_
                      simp only [Act.put, List.setIfInBounds_toArray, List.set_cons_zero, List.set_cons_succ]
                      refine wpAnyH_take (i := 6) (v := undef) (lit rfl) (by kernel_rfl) (by kernel_rfl) (by kernel_rfl) (fun _ _ _ h => h) (Or.inr ⟨by rfl, rfl⟩) trivial ?_
                      simp only [Act.put, List.setIfInBounds_toArray, List.set_cons_zero, List.set_cons_succ]
                      refine wpAnyH_take (i := 7) (v := undef) (lit rfl) (by kernel_rfl) (by kernel_rfl) (by kernel_rfl) (fun _ _ _ h => h) (Or.inr ⟨by rfl, rfl⟩) trivial ?_
                      simp only [Act.put, List.setIfInBounds_toArray, List.set_cons_zero, List.set_cons_succ]
                      refine wpAnyH_take (i := 8) (v := undef) (lit rfl) (by kernel_rfl) (by kernel_rfl) (by kernel_rfl) (fun _ _ _ h => h) (Or.inr ⟨by rfl, rfl⟩) trivial ?_
                      simp only [Act.put, List.setIfInBounds_toArray, List.set_cons_zero, List.set_cons_succ]
                      refine wpAnyH_take (i := 9) (v := undef) (lit rfl) (by kernel_rfl) (by kernel_rfl) (by kernel_rfl) (fun _ _ _ h => h) (Or.inr ⟨by rfl, rfl⟩) trivial ?_
                      simp only [Act.put, List.setIfInBounds_toArray, List.set_cons_zero, List.set_cons_succ]
                      refine wpAnyH_take (i := 10) (v := undef) (lit rfl) (by kernel_rfl) (by kernel_rfl) (by kernel_rfl) (fun _ _ _ h => h) (Or.inr ⟨by rfl, rfl⟩) trivial ?_
                      simp only [Act.put, List.setIfInBounds_toArray, List.set_cons_zero, List.set_cons_succ]
                      refine wpAnyH_take (i := 11) (v := undef) (lit rfl) (by kernel_rfl) (by kernel_rfl) (by kernel_rfl) (fun _ _ _ h => h) (Or.inr ⟨by rfl, rfl⟩) trivial ?_
                      simp only [Act.put, List.setIfInBounds_toArray, List.set_cons_zero, List.set_cons_succ]
                      refine wpAnyH_take (i := 12) (v := undef) (lit rfl) (by kernel_rfl) (by kernel_rfl) (by kernel_rfl) (fun _ _ _ h => h) (Or.inr ⟨by rfl, rfl⟩) trivial ?_
                      simp only [Act.put, List.setIfInBounds_toArray, List.set_cons_zero, List.set_cons_succ]
                      refine wpAnyH_take (i := 13) (v := undef) (lit rfl) (by kernel_rfl) (by kernel_rfl) (by kernel_rfl) (fun _ _ _ h => h) (Or.inr ⟨by rfl, rfl⟩) trivial ?_
                      simp only [Act.put, List.setIfInBounds_toArray, List.set_cons_zero, List.set_cons_succ]
                      refine wpAnyH_take (i := 14) (v := .bool false) (lit rfl) (by kernel_rfl) (by kernel_rfl) (by kernel_rfl) (fun _ _ _ h => h) (Or.inl ⟨by rfl, ?_⟩) trivial ?_
                      · rintro w6 k1
                        go_simp
                      simp only [Act.put, List.setIfInBounds_toArray, List.set_cons_zero, List.set_cons_succ]
                      refine wpAnyH_done (by kernel_rfl) ?_ _
                      refine hK _ _ ?_
                      by_cases hlr : mid - a < b - mid
                      · have g9 : (ll : Int) < (rl : Int) := by omega
                        go_wp2_with (first
                          | (go_at_call 30; (with_reducible refine (HPT.out _ L1.out).mono ?_); rintro e w8 ⟨rfl, h9⟩; have T1 := Lib.hid h9; clear h9)
                          | (go_at_call 20; (with_reducible refine (IH.out a mid lim d4 _ T1.out (by omega) (by omega) (by omega) (by omega)).mono ?_); rintro e w8 ⟨rfl, h9⟩; have Q1 := Lib.hid h9; clear h9))
                        go_roundw
                        case rel => exact ⟨mid + 1, b, lim, _, ap, _, by go_num, rfl, rfl, congrArg Value.bool (show decide (q8 ≤ ll) = decide (mid - a ≥ (b - a) / 8) from decide_eq_decide.2 (by omega)), rfl, by omega, by omega, by omega, Q1.out, by rw [← HTL.out, HTT.out, if_pos hlr], by omega⟩
                        case measure => simp [intOf]; omega
                      · have g9 : ¬ (ll : Int) < (rl : Int) := by omega
                        have IHR := Lib.hid (fun w h => IH.out (mid + 1) b lim d4 w h (by omega) (by omega) hbn (by omega))
                        rw [show ((mid + 1 : Nat) : Int) = (mid : Int) + 1 by omega] at IHR
                        go_wp2_with (first
                          | (go_at_call 30; (with_reducible refine (HPT.out _ L1.out).mono ?_); rintro e w8 ⟨rfl, h9⟩; have T1 := Lib.hid h9; clear h9)
                          | (go_at_call 20; (with_reducible refine (IHR.out _ T1.out).mono ?_); rintro e w8 ⟨rfl, h9⟩; have Q1 := Lib.hid h9; clear h9))
                        go_roundw
                        case rel => exact ⟨a, mid, lim, _, ap, _, rfl, rfl, rfl, congrArg Value.bool (show decide (q8 ≤ rl) = decide (b - mid ≥ (b - a) / 8) from decide_eq_decide.2 (by omega)), rfl, by omega, by omega, by omega, Q1.out, by rw [← HTL.out, HTT.out, if_neg hlr], by omega⟩
                        case measure => simp [intOf]; omega
                · have HTL : Hid (d3 = pdq ltU d a0 b0 lim0 true true) := Lib.hid HTL.out
                  go_wp2_with (first
                    | (go_at_call 25; (with_reducible refine (HCP.out _ K1.out).mono ?_); rintro e w8 ⟨rfl, h9⟩; have C1 := Lib.hid h9; clear h9)
                    | (go_at_call 26; (with_reducible refine (HRR.out _ C1.out).mono ?_); rintro e w8 ⟨rfl, h9⟩; have R1 := Lib.hid h9; clear h9)
                    | (go_at_call 27; (with_reducible refine (HPI.out _ R1.out).mono ?_); rintro e w8 ⟨rfl, h9⟩; have P1 := Lib.hid h9; clear h9))
                  refine bodyPost_ret (results_none rfl _ _ _) rfl ?_
                  exact ⟨rfl, by rw [← HTL.out]; exact P1.out⟩
end Go.Proofs.Ytlfmmmgdilencaa
