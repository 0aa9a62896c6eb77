import Derived.Test.YtglkmpglpddfdaaGreatDoorJ34
import Derived.Test.YtglkmpglpddfdaaGreatDoorJSrd
import Derived.Test.YtglkmpglpddfdaaGreatDoorJSre
import Derived.Test.YtglkmpglpddfdaaGreatDoorJSrf
import Derived.Sort.LotC
import Derived.Sort.LotD2
/- Of a claim's texts, joined: Srh. No statement but in the last. -/
namespace Go.Proofs.YtglkmpglpddfdaaGreatDoor
open Go.RowKit Go.Sort
set_option linter.unusedVariables false

section
variable {α : Type} [Inhabited α] {lt : α → α → Bool} {I : Array α → World → Prop} {blk n low g sf : Nat} {lb sb : Array Value}
def pdqTail (lt : α → α → Bool) (d3 : Array α) (a b limit pivot : Nat) (wasBalanced wasPartitioned : Bool) : Array α :=
  if a > 0 && !lt d3[a - 1]! d3[pivot]! then
    match partitionEqual lt d3 a b pivot with
    | (mid, d4) => if _h : a < mid ∧ mid ≤ b then pdq lt d4 mid b limit wasBalanced wasPartitioned else d4
  else
    match partition lt d3 a b pivot with
    | (mid, alreadyPartitioned, d4) =>
      if _h : a ≤ mid ∧ mid < b then
        if mid - a < b - mid then
          pdq lt (pdq lt d4 a mid limit true true) (mid + 1) b limit (decide (mid - a ≥ (b - a) / 8)) alreadyPartitioned
        else
          pdq lt (pdq lt d4 (mid + 1) b limit true true) a mid limit (decide (b - mid ≥ (b - a) / 8)) alreadyPartitioned
      else d4
def pdqPi (lt : α → α → Bool) (pi : Array α × Bool) (a b limit pivot : Nat) (wb wp : Bool) : Array α := if pi.2 then pi.1 else pdqTail lt pi.1 a b limit pivot wb wp
def pdqAsk (lt : α → α → Bool) (d2 : Array α) (a b limit pivot : Nat) (ask wb wp : Bool) : Array α := pdqPi lt (if ask then partialInsertionSort lt d2 a b else (d2, false)) a b limit pivot wb wp
def pdqC (lt : α → α → Bool) (c : Nat × Hint) (d1 : Array α) (a b limit : Nat) (wb wp : Bool) : Array α :=
  pdqAsk lt (if c.2 = .decreasing then reverseRange d1 a b else d1) a b limit (if c.2 = .decreasing then (b - 1) - (c.1 - a) else c.1) (wb && wp && (if c.2 = .decreasing then Hint.increasing else c.2) = .increasing) wb wp
theorem pdq_unfold {d : Array α} {a b limit : Nat} {wb wp : Bool} (h12 : ¬ b - a ≤ 12) (hl : ¬ limit = 0) :
    pdq lt d a b limit wb wp = pdqC lt (choosePivot lt (if !wb then breakPatterns d a b else d) a b) (if !wb then breakPatterns d a b else d) a b (if !wb then limit - 1 else limit) wb wp := by
  conv => lhs; rw [pdq.eq_def]
  rw [if_neg h12, if_neg hl]
  rfl
theorem tail_eq {d3 : Array α} {a b lim p : Nat} {wb wp : Bool} (h0 : 0 < a) (hv : lt d3[a - 1]! d3[p]! = false) (h1 : a < (partitionEqual lt d3 a b p).1) (h2 : (partitionEqual lt d3 a b p).1 ≤ b) :
    pdqTail lt d3 a b lim p wb wp = pdq lt (partitionEqual lt d3 a b p).2 (partitionEqual lt d3 a b p).1 b lim wb wp := by
  unfold pdqTail
  rw [if_pos (by simp [h0, hv])]
  obtain ⟨r, hr⟩ : ∃ r, partitionEqual lt d3 a b p = r := ⟨_, rfl⟩
  rw [hr] at h1 h2
  rw [hr]
  obtain ⟨mid, d4⟩ := r
  dsimp only at h1 h2 ⊢
  rw [dif_pos ⟨h1, h2⟩]
theorem tail_part {d3 d4 : Array α} {a b lim p mid : Nat} {wb wp ap : Bool} (h0 : ¬ 0 < a ∨ lt d3[a - 1]! d3[p]! = true) (hp : partition lt d3 a b p = (mid, ap, d4)) (h1 : a ≤ mid) (h2 : mid < b) :
    pdqTail lt d3 a b lim p wb wp = if mid - a < b - mid then pdq lt (pdq lt d4 a mid lim true true) (mid + 1) b lim (decide (mid - a ≥ (b - a) / 8)) ap
      else pdq lt (pdq lt d4 (mid + 1) b lim true true) a mid lim (decide (b - mid ≥ (b - a) / 8)) ap := by
  unfold pdqTail
  rw [if_neg (by rcases h0 with h0 | h0 <;> simp [h0])]
  simp only [hp]
  rw [dif_pos ⟨h1, h2⟩]
theorem rev_size (a b : Nat) (d : Array α) {n : Nat} (h : d.size = n) : (reverseRange d a b).size = n := by
  unfold reverseRange
  suffices hh : ∀ m i j (d : Array α), j - i ≤ m → (reverseLoop i j d).size = d.size by rw [hh _ _ _ d (Nat.le_refl _), h]
  intro m
  induction m with
  | zero => intro i j d hm; rw [rev_end (by omega)]
  | succ m ih =>
    intro i j d hm
    by_cases hij : i < j
    · rw [rev_more hij, ih _ _ _ (by omega), swp_size]
    · rw [rev_end hij]
set_option maxRecDepth 100000 in
set_option maxHeartbeats 100000000 in
theorem pdq_any (S : Srt lt I blk n low g sf lb sb) (W1 : SWO lt) : ∀ (m a0 b0 lim0 : Nat) (d : Array α) (W : World), I d W → a0 ≤ b0 → b0 - a0 < m → b0 ≤ n → lim0 ≤ 1000 →
    Calls Tryz.prog 54 #[.agg #[.func (.func g) #[] lb, .func (.func sf) #[] sb], .int .i64 (a0 : Int), .int .i64 (b0 : Int), .int .i64 (lim0 : Int)] W (SrtEnd I blk (.tuple #[]) (pdq lt d a0 b0 lim0 true true) W) := by
  intro m
  induction m with
  | zero => intro a0 b0 lim0 d W _ _ h; omega
  | succ m ih =>
    intro a0 b0 lim0 d W hI hab0 hm hb0 hlim0
    have HS := Lib.hid S
    have HW := Lib.hid W1
    have IH0 := Lib.hid ih
    have hmost := S.most
    have eg := S.enters
    have H0 := Lib.hid (SS.start S hI)
    clear S hI W1 ih
    go_enter Tryz.func54, Tryz.ntmps54
    go_wp2
    go_loopw [1, 2, 3, 8, 9] (fun va vb vl vw vp wr => ∃ (a b lim : Nat) (wb wp : Bool) (dk : Array α), va = .int .i64 (a : Int) ∧ vb = .int .i64 (b : Int) ∧ vl = .int .i64 (lim : Int) ∧ vw = .bool wb ∧ vp = .bool wp ∧ a ≤ b ∧ b ≤ n ∧ b - a ≤ b0 - a0 ∧ SS I blk g sf lb sb W dk wr ∧ pdq lt dk a b lim wb wp = pdq lt d a0 b0 lim0 true true ∧ lim ≤ 1000) (fun va vb _ _ _ _ => (intOf vb - intOf va).toNat)
    case atStart => exact ⟨a0, b0, lim0, true, true, d, rfl, rfl, rfl, rfl, rfl, hab0, hb0, Nat.le_refl _, H0.out, rfl, hlim0⟩
    case round =>
      obtain ⟨a, b, lim, wb, wp, dk, rfl, rfl, rfl, rfl, rfl, hab, hbn, hsub, h1, h4, hlim⟩ := hrel
      have K1 := Lib.hid h1
      have K4 := Lib.hid h4
      have c0 := h1.box.cell0
      have c1 := h1.box.cell1
      have hdk : dk.size = n := HS.out.size _ _ h1.inv
      clear h1 h4
      obtain ⟨L, hL⟩ : ∃ L, b - a = L := ⟨_, rfl⟩
      have hm1 : (b : Int) - (a : Int) = (L : Int) := by omega
      by_cases h12 : b - a ≤ 12
      · have g12 : (L : Int) ≤ 12 := by omega
        have HE : Hid (insertionSort lt dk a b = pdq lt d a0 b0 lim0 true true) := Lib.hid (by rw [← K4.out, pdq.eq_def, if_pos h12])
        have HC := Lib.hid (insSort_any HS.out a b dk wr K1.out.inv hab hbn)
        rw [HE.out] at HC
        go_wp2_with (go_at_call 95; (with_reducible refine HC.out.mono ?_); intro e w8 h8; obtain ⟨rfl, h9⟩ := K1.out.call h8; have R1 := Lib.hid h9; clear h8 h9)
        go_end0
        exact R1.out.done (.tuple #[])
      · have g12 : ¬ (L : Int) ≤ 12 := by omega
        by_cases hl0 : lim = 0
        · subst hl0
          have HE : Hid (heapSort lt dk a b = pdq lt d a0 b0 lim0 true true) := Lib.hid (by rw [← K4.out, pdq.eq_def, if_neg h12, if_pos rfl])
          have HC := Lib.hid (heapSort_any HS.out a b dk wr K1.out.inv (by omega) hbn)
          rw [HE.out] at HC
          go_wp2_with (go_at_call 96; (with_reducible refine HC.out.mono ?_); intro e w8 h8; obtain ⟨rfl, h9⟩ := K1.out.call h8; have R1 := Lib.hid h9; clear h8 h9)
          go_end0
          exact R1.out.done (.tuple #[])
        · have gl0 : ((lim : Int) == 0) = false := by simp; omega
          have IH : Hid (∀ (a b lim : Nat) (d : Array α) (W : World), I d W → a ≤ b → b - a < b0 - a0 → b ≤ n → lim ≤ 1000 → Calls Tryz.prog 54 #[.agg #[.func (.func g) #[] lb, .func (.func sf) #[] sb], .int .i64 (a : Int), .int .i64 (b : Int), .int .i64 (lim : Int)] W (SrtEnd I blk (.tuple #[]) (pdq lt d a b lim true true) W)) := Lib.hid (fun a b lim d W h1 h2 h3 h4 h5 => IH0.out a b lim d W h1 h2 (by omega) h4 h5)
          obtain ⟨q8, hq8⟩ : ∃ q8, L / 8 = q8 := ⟨_, rfl⟩
          have hq1 : (L : Int).tdiv 8 = (q8 : Int) := by rw [Int.tdiv_eq_ediv_of_nonneg (by omega)]; omega
          have hq2 : (L : Int) / 8 = (q8 : Int) := by omega
          have HU := Lib.hid (pdq_unfold (lt := lt) (d := dk) (wb := wb) (wp := wp) h12 hl0)
          cases wb
          case false =>
            obtain ⟨d1, hd1⟩ : ∃ d1, breakPatterns dk a b = d1 := ⟨_, rfl⟩
            obtain ⟨lim1, hlim1⟩ : ∃ l, lim - 1 = l := ⟨_, rfl⟩
            have gl1 : (lim : Int) - 1 = (lim1 : Int) := by omega
            have HU : Hid (pdq lt dk a b lim false wp = pdqC lt (choosePivot lt d1 a b) d1 a b lim1 false wp) := Lib.hid (by rw [HU.out, ← hd1, ← hlim1]; rfl)
            have HBP := Lib.hid (fun w h => hd1 ▸ breakPat_any HS.out a b dk w h (by omega) hbn)
            have HDS1 : Hid (d1.size = n) := Lib.hid (by rw [← hd1, (breakPatterns_holds dk a b hab (by omega)).1, hdk])
            clear hd1
            have hch := choosePivot_holds lt d1 a b (by omega)
            have hcp := fun w h => choosePiv_any HS.out a b d1 w h (by omega) hbn
            obtain ⟨r, hr⟩ : ∃ r, choosePivot lt d1 a b = r := ⟨_, rfl⟩
            rw [hr] at hch hcp HU
            obtain ⟨p0, hh⟩ := r
            dsimp only at hch hcp
            clear hr
            cases hh
            case unknown =>
              simp only [hintI] at hcp
              have HCP := Lib.hid hcp
              clear hcp
              have hp1 := hch.1
              have hp2 := hch.2
              have HDS2 := HDS1
              have HTL : Hid (pdqTail lt d1 a b lim1 p0 false wp = pdq lt d a0 b0 lim0 true true) := Lib.hid (by rw [← K4.out, HU.out]; rfl)
              have HDS := HDS2
              as_aux_lemma =>
                by_cases ha0 : 0 < a
                · have ga0 : (0 : Int) < (a : Int) := by omega
                  have hl := fun w (h : SS I blk g sf lb sb W d1 w) => h.less HS.out (a - 1) p0 (by omega) (by omega)
                  rw [show (((a - 1 : Nat) : Int)) = (a : Int) - 1 by omega] at hl
                  cases hv : lt d1[a - 1]! d1[p0]!
                  · rw [hv] at hl
                    have HLS := Lib.hid hl
                    have HV := Lib.hid hv
                    have HPE := Lib.hid (fun w h => partEq_any HS.out a b p0 d1 w h hp1 hp2 hbn)
                    have HTE := Lib.hid (fun h1 h2 => tail_eq (b := b) (lim := lim1) (wb := false) (wp := wp) ha0 HV.out h1 h2)
                    clear hl hv
                    generalize partitionEqual lt d1 a b p0 = r at HPE HTE
                    obtain ⟨mid, d4⟩ := r
                    dsimp only at HPE HTE
                    go_wp2_with (first
                      | (go_at_call 97; (with_reducible refine (HBP.out _ K1.out.inv).mono ?_); intro e w8 h8; obtain ⟨rfl, h9⟩ := K1.out.call h8; have B1 := Lib.hid h9; have c0 := h9.box.cell0; have c1 := h9.box.cell1; clear h8 h9)
                      | (go_at_call 98; (with_reducible refine (HCP.out _ B1.out.inv).mono ?_); rintro e w8 ⟨rfl, h8, h10⟩; have h9 := B1.out.below HS.out h10; have C1 := Lib.hid h9; clear h10; have c0 := h9.box.cell0; have c1 := h9.box.cell1; clear h8 h9)
                      | (go_at_fn g; refine (HLS.out _ C1.out).mono ?_; rintro e w8 ⟨rfl, h9⟩; have L1 := Lib.hid h9; have h8 := trivial; have c0 := h9.box.cell0; have c1 := h9.box.cell1; clear h8 h9)
                      | (go_at_call 101; (with_reducible refine (HPE.out _ L1.out.inv).mono ?_); intro e w8 h8; obtain ⟨h8, ke1, ke2⟩ := h8; obtain ⟨rfl, h9⟩ := L1.out.call h8; have E1 := Lib.hid h9; have KE := Lib.hid (And.intro ke1 ke2); clear ke1 ke2; have c0 := h9.box.cell0; have c1 := h9.box.cell1; clear h8 h9))
                    have k1 := KE.out.1
                    have k2 := KE.out.2
                    go_roundw
                    case rel => exact ⟨mid, b, lim1, false, wp, _, rfl, rfl, rfl, rfl, rfl, by omega, by omega, by omega, E1.out, by rw [← HTL.out, HTE.out k1 k2], by omega⟩
                    case measure => simp [intOf]; omega
                  · rw [hv] at hl
                    have HLS := Lib.hid hl
                    have HV := Lib.hid hv
                    clear hl hv
                    obtain ⟨r, hr⟩ : ∃ r, partition lt d1 a b p0 = r := ⟨_, rfl⟩
                    obtain ⟨k1, k2, _⟩ := partition_holds lt HW.out d1 a b p0 hp1 hp2 (by rw [HDS.out]; exact hbn)
                    have HPT := Lib.hid (fun w h => partit_any HS.out a b p0 d1 w h hp1 hp2 hbn)
                    rw [hr] at k1 k2 HPT
                    obtain ⟨mid, ap, d4⟩ := r
                    dsimp only at k1 k2 HPT
                    have HTT := Lib.hid (tail_part (lim := lim1) (wb := false) (wp := wp) (Or.inr HV.out) hr k1 k2)
                    obtain ⟨ll, hll⟩ : ∃ ll : Nat, mid - a = ll := ⟨_, rfl⟩
                    obtain ⟨rl, hrl⟩ : ∃ rl : Nat, b - mid = rl := ⟨_, rfl⟩
                    have hll1 : (mid : Int) - (a : Int) = (ll : Int) := by omega
                    have hrl1 : (b : Int) - (mid : Int) = (rl : Int) := by omega
                    clear hr
                    by_cases hlr : mid - a < b - mid
                    · have g9 : (ll : Int) < (rl : Int) := by omega
                      go_wp2_with (first
                        | (go_at_call 97; (with_reducible refine (HBP.out _ K1.out.inv).mono ?_); intro e w8 h8; obtain ⟨rfl, h9⟩ := K1.out.call h8; have B1 := Lib.hid h9; have c0 := h9.box.cell0; have c1 := h9.box.cell1; clear h8 h9)
                        | (go_at_call 98; (with_reducible refine (HCP.out _ B1.out.inv).mono ?_); rintro e w8 ⟨rfl, h8, h10⟩; have h9 := B1.out.below HS.out h10; have C1 := Lib.hid h9; clear h10; have c0 := h9.box.cell0; have c1 := h9.box.cell1; clear h8 h9)
                        | (go_at_fn g; refine (HLS.out _ C1.out).mono ?_; rintro e w8 ⟨rfl, h9⟩; have L1 := Lib.hid h9; have h8 := trivial; have c0 := h9.box.cell0; have c1 := h9.box.cell1; clear h8 h9)
                        | (go_at_call 102; (with_reducible refine (HPT.out _ L1.out.inv).mono ?_); intro e w8 h8; obtain ⟨rfl, h9⟩ := L1.out.call h8; have T1 := Lib.hid h9; have c0 := h9.box.cell0; have c1 := h9.box.cell1; clear h8 h9)
                        | (go_at_call 54; (with_reducible refine (IH.out a mid lim1 d4 _ T1.out.inv (by omega) (by omega) (by omega) (by omega)).mono ?_); intro e w8 h8; obtain ⟨rfl, h9⟩ := T1.out.call h8; have Q1 := Lib.hid h9; have c0 := h9.box.cell0; have c1 := h9.box.cell1; clear h8 h9))
                      go_roundw
                      case rel => exact ⟨mid + 1, b, lim1, _, ap, _, by go_num, rfl, rfl, congrArg Value.bool (show decide (q8 ≤ ll) = decide (mid - a ≥ (b - a) / 8) from decide_eq_decide.2 (by omega)), rfl, by omega, by omega, by omega, Q1.out, by rw [← HTL.out, HTT.out, if_pos hlr], by omega⟩
                      case measure => simp [intOf]; omega
                    · have g9 : ¬ (ll : Int) < (rl : Int) := by omega
                      have IHR := Lib.hid (fun w h => IH.out (mid + 1) b lim1 d4 w h (by omega) (by omega) hbn (by omega))
                      rw [show ((mid + 1 : Nat) : Int) = (mid : Int) + 1 by omega] at IHR
                      go_wp2_with (first
                        | (go_at_call 97; (with_reducible refine (HBP.out _ K1.out.inv).mono ?_); intro e w8 h8; obtain ⟨rfl, h9⟩ := K1.out.call h8; have B1 := Lib.hid h9; have c0 := h9.box.cell0; have c1 := h9.box.cell1; clear h8 h9)
                        | (go_at_call 98; (with_reducible refine (HCP.out _ B1.out.inv).mono ?_); rintro e w8 ⟨rfl, h8, h10⟩; have h9 := B1.out.below HS.out h10; have C1 := Lib.hid h9; clear h10; have c0 := h9.box.cell0; have c1 := h9.box.cell1; clear h8 h9)
                        | (go_at_fn g; refine (HLS.out _ C1.out).mono ?_; rintro e w8 ⟨rfl, h9⟩; have L1 := Lib.hid h9; have h8 := trivial; have c0 := h9.box.cell0; have c1 := h9.box.cell1; clear h8 h9)
                        | (go_at_call 102; (with_reducible refine (HPT.out _ L1.out.inv).mono ?_); intro e w8 h8; obtain ⟨rfl, h9⟩ := L1.out.call h8; have T1 := Lib.hid h9; have c0 := h9.box.cell0; have c1 := h9.box.cell1; clear h8 h9)
                        | (go_at_call 54; (with_reducible refine (IHR.out _ T1.out.inv).mono ?_); intro e w8 h8; obtain ⟨rfl, h9⟩ := T1.out.call h8; have Q1 := Lib.hid h9; have c0 := h9.box.cell0; have c1 := h9.box.cell1; clear h8 h9))
                      go_roundw
                      case rel => exact ⟨a, mid, lim1, _, ap, _, rfl, rfl, rfl, congrArg Value.bool (show decide (q8 ≤ rl) = decide (b - mid ≥ (b - a) / 8) from decide_eq_decide.2 (by omega)), rfl, by omega, by omega, by omega, Q1.out, by rw [← HTL.out, HTT.out, if_neg hlr], by omega⟩
                      case measure => simp [intOf]; omega
                · have ga0 : ¬ (0 : Int) < (a : Int) := by omega
                  obtain ⟨r, hr⟩ : ∃ r, partition lt d1 a b p0 = r := ⟨_, rfl⟩
                  obtain ⟨k1, k2, _⟩ := partition_holds lt HW.out d1 a b p0 hp1 hp2 (by rw [HDS.out]; exact hbn)
                  have HPT := Lib.hid (fun w h => partit_any HS.out a b p0 d1 w h hp1 hp2 hbn)
                  rw [hr] at k1 k2 HPT
                  obtain ⟨mid, ap, d4⟩ := r
                  dsimp only at k1 k2 HPT
                  have HTT := Lib.hid (tail_part (lim := lim1) (wb := false) (wp := wp) (Or.inl ha0) hr k1 k2)
                  obtain ⟨ll, hll⟩ : ∃ ll : Nat, mid - a = ll := ⟨_, rfl⟩
                  obtain ⟨rl, hrl⟩ : ∃ rl : Nat, b - mid = rl := ⟨_, rfl⟩
                  have hll1 : (mid : Int) - (a : Int) = (ll : Int) := by omega
                  have hrl1 : (b : Int) - (mid : Int) = (rl : Int) := by omega
                  clear hr
                  by_cases hlr : mid - a < b - mid
                  · have g9 : (ll : Int) < (rl : Int) := by omega
                    go_wp2_with (first
                      | (go_at_call 97; (with_reducible refine (HBP.out _ K1.out.inv).mono ?_); intro e w8 h8; obtain ⟨rfl, h9⟩ := K1.out.call h8; have B1 := Lib.hid h9; have c0 := h9.box.cell0; have c1 := h9.box.cell1; clear h8 h9)
                      | (go_at_call 98; (with_reducible refine (HCP.out _ B1.out.inv).mono ?_); rintro e w8 ⟨rfl, h8, h10⟩; have h9 := B1.out.below HS.out h10; have C1 := Lib.hid h9; clear h10; have c0 := h9.box.cell0; have c1 := h9.box.cell1; clear h8 h9)
                      | (go_at_call 102; (with_reducible refine (HPT.out _ C1.out.inv).mono ?_); intro e w8 h8; obtain ⟨rfl, h9⟩ := C1.out.call h8; have T1 := Lib.hid h9; have c0 := h9.box.cell0; have c1 := h9.box.cell1; clear h8 h9)
                      | (go_at_call 54; (with_reducible refine (IH.out a mid lim1 d4 _ T1.out.inv (by omega) (by omega) (by omega) (by omega)).mono ?_); intro e w8 h8; obtain ⟨rfl, h9⟩ := T1.out.call h8; have Q1 := Lib.hid h9; have c0 := h9.box.cell0; have c1 := h9.box.cell1; clear h8 h9))
                    go_roundw
                    case rel => exact ⟨mid + 1, b, lim1, _, ap, _, by go_num, rfl, rfl, congrArg Value.bool (show decide (q8 ≤ ll) = decide (mid - a ≥ (b - a) / 8) from decide_eq_decide.2 (by omega)), rfl, by omega, by omega, by omega, Q1.out, by rw [← HTL.out, HTT.out, if_pos hlr], by omega⟩
                    case measure => simp [intOf]; omega
                  · have g9 : ¬ (ll : Int) < (rl : Int) := by omega
                    have IHR := Lib.hid (fun w h => IH.out (mid + 1) b lim1 d4 w h (by omega) (by omega) hbn (by omega))
                    rw [show ((mid + 1 : Nat) : Int) = (mid : Int) + 1 by omega] at IHR
                    go_wp2_with (first
                      | (go_at_call 97; (with_reducible refine (HBP.out _ K1.out.inv).mono ?_); intro e w8 h8; obtain ⟨rfl, h9⟩ := K1.out.call h8; have B1 := Lib.hid h9; have c0 := h9.box.cell0; have c1 := h9.box.cell1; clear h8 h9)
                      | (go_at_call 98; (with_reducible refine (HCP.out _ B1.out.inv).mono ?_); rintro e w8 ⟨rfl, h8, h10⟩; have h9 := B1.out.below HS.out h10; have C1 := Lib.hid h9; clear h10; have c0 := h9.box.cell0; have c1 := h9.box.cell1; clear h8 h9)
                      | (go_at_call 102; (with_reducible refine (HPT.out _ C1.out.inv).mono ?_); intro e w8 h8; obtain ⟨rfl, h9⟩ := C1.out.call h8; have T1 := Lib.hid h9; have c0 := h9.box.cell0; have c1 := h9.box.cell1; clear h8 h9)
                      | (go_at_call 54; (with_reducible refine (IHR.out _ T1.out.inv).mono ?_); intro e w8 h8; obtain ⟨rfl, h9⟩ := T1.out.call h8; have Q1 := Lib.hid h9; have c0 := h9.box.cell0; have c1 := h9.box.cell1; clear h8 h9))
                    go_roundw
                    case rel => exact ⟨a, mid, lim1, _, ap, _, rfl, rfl, rfl, congrArg Value.bool (show decide (q8 ≤ rl) = decide (b - mid ≥ (b - a) / 8) from decide_eq_decide.2 (by omega)), rfl, by omega, by omega, by omega, Q1.out, by rw [← HTL.out, HTT.out, if_neg hlr], by omega⟩
                    case measure => simp [intOf]; omega
            case increasing =>
              simp only [hintI] at hcp
              have HCP := Lib.hid hcp
              clear hcp
              have hp1 := hch.1
              have hp2 := hch.2
              have HDS2 := HDS1
              have HTL : Hid (pdqTail lt d1 a b lim1 p0 false wp = pdq lt d a0 b0 lim0 true true) := Lib.hid (by rw [← K4.out, HU.out]; rfl)
              have HDS := HDS2
              as_aux_lemma =>
                by_cases ha0 : 0 < a
                · have ga0 : (0 : Int) < (a : Int) := by omega
                  have hl := fun w (h : SS I blk g sf lb sb W d1 w) => h.less HS.out (a - 1) p0 (by omega) (by omega)
                  rw [show (((a - 1 : Nat) : Int)) = (a : Int) - 1 by omega] at hl
                  cases hv : lt d1[a - 1]! d1[p0]!
                  · rw [hv] at hl
                    have HLS := Lib.hid hl
                    have HV := Lib.hid hv
                    have HPE := Lib.hid (fun w h => partEq_any HS.out a b p0 d1 w h hp1 hp2 hbn)
                    have HTE := Lib.hid (fun h1 h2 => tail_eq (b := b) (lim := lim1) (wb := false) (wp := wp) ha0 HV.out h1 h2)
                    clear hl hv
                    generalize partitionEqual lt d1 a b p0 = r at HPE HTE
                    obtain ⟨mid, d4⟩ := r
                    dsimp only at HPE HTE
                    go_wp2_with (first
                      | (go_at_call 97; (with_reducible refine (HBP.out _ K1.out.inv).mono ?_); intro e w8 h8; obtain ⟨rfl, h9⟩ := K1.out.call h8; have B1 := Lib.hid h9; have c0 := h9.box.cell0; have c1 := h9.box.cell1; clear h8 h9)
                      | (go_at_call 98; (with_reducible refine (HCP.out _ B1.out.inv).mono ?_); rintro e w8 ⟨rfl, h8, h10⟩; have h9 := B1.out.below HS.out h10; have C1 := Lib.hid h9; clear h10; have c0 := h9.box.cell0; have c1 := h9.box.cell1; clear h8 h9)
                      | (go_at_fn g; refine (HLS.out _ C1.out).mono ?_; rintro e w8 ⟨rfl, h9⟩; have L1 := Lib.hid h9; have h8 := trivial; have c0 := h9.box.cell0; have c1 := h9.box.cell1; clear h8 h9)
                      | (go_at_call 101; (with_reducible refine (HPE.out _ L1.out.inv).mono ?_); intro e w8 h8; obtain ⟨h8, ke1, ke2⟩ := h8; obtain ⟨rfl, h9⟩ := L1.out.call h8; have E1 := Lib.hid h9; have KE := Lib.hid (And.intro ke1 ke2); clear ke1 ke2; have c0 := h9.box.cell0; have c1 := h9.box.cell1; clear h8 h9))
                    have k1 := KE.out.1
                    have k2 := KE.out.2
                    go_roundw
                    case rel => exact ⟨mid, b, lim1, false, wp, _, rfl, rfl, rfl, rfl, rfl, by omega, by omega, by omega, E1.out, by rw [← HTL.out, HTE.out k1 k2], by omega⟩
                    case measure => simp [intOf]; omega
                  · rw [hv] at hl
                    have HLS := Lib.hid hl
                    have HV := Lib.hid hv
                    clear hl hv
                    obtain ⟨r, hr⟩ : ∃ r, partition lt d1 a b p0 = r := ⟨_, rfl⟩
                    obtain ⟨k1, k2, _⟩ := partition_holds lt HW.out d1 a b p0 hp1 hp2 (by rw [HDS.out]; exact hbn)
                    have HPT := Lib.hid (fun w h => partit_any HS.out a b p0 d1 w h hp1 hp2 hbn)
                    rw [hr] at k1 k2 HPT
                    obtain ⟨mid, ap, d4⟩ := r
                    dsimp only at k1 k2 HPT
                    have HTT := Lib.hid (tail_part (lim := lim1) (wb := false) (wp := wp) (Or.inr HV.out) hr k1 k2)
                    obtain ⟨ll, hll⟩ : ∃ ll : Nat, mid - a = ll := ⟨_, rfl⟩
                    obtain ⟨rl, hrl⟩ : ∃ rl : Nat, b - mid = rl := ⟨_, rfl⟩
                    have hll1 : (mid : Int) - (a : Int) = (ll : Int) := by omega
                    have hrl1 : (b : Int) - (mid : Int) = (rl : Int) := by omega
                    clear hr
                    by_cases hlr : mid - a < b - mid
                    · have g9 : (ll : Int) < (rl : Int) := by omega
                      go_wp2_with (first
                        | (go_at_call 97; (with_reducible refine (HBP.out _ K1.out.inv).mono ?_); intro e w8 h8; obtain ⟨rfl, h9⟩ := K1.out.call h8; have B1 := Lib.hid h9; have c0 := h9.box.cell0; have c1 := h9.box.cell1; clear h8 h9)
                        | (go_at_call 98; (with_reducible refine (HCP.out _ B1.out.inv).mono ?_); rintro e w8 ⟨rfl, h8, h10⟩; have h9 := B1.out.below HS.out h10; have C1 := Lib.hid h9; clear h10; have c0 := h9.box.cell0; have c1 := h9.box.cell1; clear h8 h9)
                        | (go_at_fn g; refine (HLS.out _ C1.out).mono ?_; rintro e w8 ⟨rfl, h9⟩; have L1 := Lib.hid h9; have h8 := trivial; have c0 := h9.box.cell0; have c1 := h9.box.cell1; clear h8 h9)
                        | (go_at_call 102; (with_reducible refine (HPT.out _ L1.out.inv).mono ?_); intro e w8 h8; obtain ⟨rfl, h9⟩ := L1.out.call h8; have T1 := Lib.hid h9; have c0 := h9.box.cell0; have c1 := h9.box.cell1; clear h8 h9)
                        | (go_at_call 54; (with_reducible refine (IH.out a mid lim1 d4 _ T1.out.inv (by omega) (by omega) (by omega) (by omega)).mono ?_); intro e w8 h8; obtain ⟨rfl, h9⟩ := T1.out.call h8; have Q1 := Lib.hid h9; have c0 := h9.box.cell0; have c1 := h9.box.cell1; clear h8 h9))
                      go_roundw
                      case rel => exact ⟨mid + 1, b, lim1, _, ap, _, by go_num, rfl, rfl, congrArg Value.bool (show decide (q8 ≤ ll) = decide (mid - a ≥ (b - a) / 8) from decide_eq_decide.2 (by omega)), rfl, by omega, by omega, by omega, Q1.out, by rw [← HTL.out, HTT.out, if_pos hlr], by omega⟩
                      case measure => simp [intOf]; omega
                    · have g9 : ¬ (ll : Int) < (rl : Int) := by omega
                      have IHR := Lib.hid (fun w h => IH.out (mid + 1) b lim1 d4 w h (by omega) (by omega) hbn (by omega))
                      rw [show ((mid + 1 : Nat) : Int) = (mid : Int) + 1 by omega] at IHR
                      go_wp2_with (first
                        | (go_at_call 97; (with_reducible refine (HBP.out _ K1.out.inv).mono ?_); intro e w8 h8; obtain ⟨rfl, h9⟩ := K1.out.call h8; have B1 := Lib.hid h9; have c0 := h9.box.cell0; have c1 := h9.box.cell1; clear h8 h9)
                        | (go_at_call 98; (with_reducible refine (HCP.out _ B1.out.inv).mono ?_); rintro e w8 ⟨rfl, h8, h10⟩; have h9 := B1.out.below HS.out h10; have C1 := Lib.hid h9; clear h10; have c0 := h9.box.cell0; have c1 := h9.box.cell1; clear h8 h9)
                        | (go_at_fn g; refine (HLS.out _ C1.out).mono ?_; rintro e w8 ⟨rfl, h9⟩; have L1 := Lib.hid h9; have h8 := trivial; have c0 := h9.box.cell0; have c1 := h9.box.cell1; clear h8 h9)
                        | (go_at_call 102; (with_reducible refine (HPT.out _ L1.out.inv).mono ?_); intro e w8 h8; obtain ⟨rfl, h9⟩ := L1.out.call h8; have T1 := Lib.hid h9; have c0 := h9.box.cell0; have c1 := h9.box.cell1; clear h8 h9)
                        | (go_at_call 54; (with_reducible refine (IHR.out _ T1.out.inv).mono ?_); intro e w8 h8; obtain ⟨rfl, h9⟩ := T1.out.call h8; have Q1 := Lib.hid h9; have c0 := h9.box.cell0; have c1 := h9.box.cell1; clear h8 h9))
                      go_roundw
                      case rel => exact ⟨a, mid, lim1, _, ap, _, rfl, rfl, rfl, congrArg Value.bool (show decide (q8 ≤ rl) = decide (b - mid ≥ (b - a) / 8) from decide_eq_decide.2 (by omega)), rfl, by omega, by omega, by omega, Q1.out, by rw [← HTL.out, HTT.out, if_neg hlr], by omega⟩
                      case measure => simp [intOf]; omega
                · have ga0 : ¬ (0 : Int) < (a : Int) := by omega
                  obtain ⟨r, hr⟩ : ∃ r, partition lt d1 a b p0 = r := ⟨_, rfl⟩
                  obtain ⟨k1, k2, _⟩ := partition_holds lt HW.out d1 a b p0 hp1 hp2 (by rw [HDS.out]; exact hbn)
                  have HPT := Lib.hid (fun w h => partit_any HS.out a b p0 d1 w h hp1 hp2 hbn)
                  rw [hr] at k1 k2 HPT
                  obtain ⟨mid, ap, d4⟩ := r
                  dsimp only at k1 k2 HPT
                  have HTT := Lib.hid (tail_part (lim := lim1) (wb := false) (wp := wp) (Or.inl ha0) hr k1 k2)
                  obtain ⟨ll, hll⟩ : ∃ ll : Nat, mid - a = ll := ⟨_, rfl⟩
                  obtain ⟨rl, hrl⟩ : ∃ rl : Nat, b - mid = rl := ⟨_, rfl⟩
                  have hll1 : (mid : Int) - (a : Int) = (ll : Int) := by omega
                  have hrl1 : (b : Int) - (mid : Int) = (rl : Int) := by omega
                  clear hr
                  by_cases hlr : mid - a < b - mid
                  · have g9 : (ll : Int) < (rl : Int) := by omega
                    go_wp2_with (first
                      | (go_at_call 97; (with_reducible refine (HBP.out _ K1.out.inv).mono ?_); intro e w8 h8; obtain ⟨rfl, h9⟩ := K1.out.call h8; have B1 := Lib.hid h9; have c0 := h9.box.cell0; have c1 := h9.box.cell1; clear h8 h9)
                      | (go_at_call 98; (with_reducible refine (HCP.out _ B1.out.inv).mono ?_); rintro e w8 ⟨rfl, h8, h10⟩; have h9 := B1.out.below HS.out h10; have C1 := Lib.hid h9; clear h10; have c0 := h9.box.cell0; have c1 := h9.box.cell1; clear h8 h9)
                      | (go_at_call 102; (with_reducible refine (HPT.out _ C1.out.inv).mono ?_); intro e w8 h8; obtain ⟨rfl, h9⟩ := C1.out.call h8; have T1 := Lib.hid h9; have c0 := h9.box.cell0; have c1 := h9.box.cell1; clear h8 h9)
                      | (go_at_call 54; (with_reducible refine (IH.out a mid lim1 d4 _ T1.out.inv (by omega) (by omega) (by omega) (by omega)).mono ?_); intro e w8 h8; obtain ⟨rfl, h9⟩ := T1.out.call h8; have Q1 := Lib.hid h9; have c0 := h9.box.cell0; have c1 := h9.box.cell1; clear h8 h9))
                    go_roundw
                    case rel => exact ⟨mid + 1, b, lim1, _, ap, _, by go_num, rfl, rfl, congrArg Value.bool (show decide (q8 ≤ ll) = decide (mid - a ≥ (b - a) / 8) from decide_eq_decide.2 (by omega)), rfl, by omega, by omega, by omega, Q1.out, by rw [← HTL.out, HTT.out, if_pos hlr], by omega⟩
                    case measure => simp [intOf]; omega
                  · have g9 : ¬ (ll : Int) < (rl : Int) := by omega
                    have IHR := Lib.hid (fun w h => IH.out (mid + 1) b lim1 d4 w h (by omega) (by omega) hbn (by omega))
                    rw [show ((mid + 1 : Nat) : Int) = (mid : Int) + 1 by omega] at IHR
                    go_wp2_with (first
                      | (go_at_call 97; (with_reducible refine (HBP.out _ K1.out.inv).mono ?_); intro e w8 h8; obtain ⟨rfl, h9⟩ := K1.out.call h8; have B1 := Lib.hid h9; have c0 := h9.box.cell0; have c1 := h9.box.cell1; clear h8 h9)
                      | (go_at_call 98; (with_reducible refine (HCP.out _ B1.out.inv).mono ?_); rintro e w8 ⟨rfl, h8, h10⟩; have h9 := B1.out.below HS.out h10; have C1 := Lib.hid h9; clear h10; have c0 := h9.box.cell0; have c1 := h9.box.cell1; clear h8 h9)
                      | (go_at_call 102; (with_reducible refine (HPT.out _ C1.out.inv).mono ?_); intro e w8 h8; obtain ⟨rfl, h9⟩ := C1.out.call h8; have T1 := Lib.hid h9; have c0 := h9.box.cell0; have c1 := h9.box.cell1; clear h8 h9)
                      | (go_at_call 54; (with_reducible refine (IHR.out _ T1.out.inv).mono ?_); intro e w8 h8; obtain ⟨rfl, h9⟩ := T1.out.call h8; have Q1 := Lib.hid h9; have c0 := h9.box.cell0; have c1 := h9.box.cell1; clear h8 h9))
                    go_roundw
                    case rel => exact ⟨a, mid, lim1, _, ap, _, rfl, rfl, rfl, congrArg Value.bool (show decide (q8 ≤ rl) = decide (b - mid ≥ (b - a) / 8) from decide_eq_decide.2 (by omega)), rfl, by omega, by omega, by omega, Q1.out, by rw [← HTL.out, HTT.out, if_neg hlr], by omega⟩
                    case measure => simp [intOf]; omega
            case decreasing =>
              simp only [hintI] at hcp
              have HCP := Lib.hid hcp
              clear hcp
              obtain ⟨d2, hd2⟩ : ∃ d2, reverseRange d1 a b = d2 := ⟨_, rfl⟩
              obtain ⟨p, hp⟩ : ∃ p, (b - 1) - (p0 - a) = p := ⟨_, rfl⟩
              have hp3 : (b : Int) - 1 - ((p0 : Int) - (a : Int)) = (p : Int) := by omega
              have hp1 : a ≤ p := by omega
              have hp2 : p < b := by omega
              have HRR := Lib.hid (fun w h => hd2 ▸ revRange_any HS.out a b d1 w h (by omega) hbn)
              have HDS2 : Hid (d2.size = n) := Lib.hid (hd2 ▸ rev_size _ _ _ HDS1.out)
              have HTL : Hid (pdqTail lt d2 a b lim1 p false wp = pdq lt d a0 b0 lim0 true true) := Lib.hid (by rw [← K4.out, HU.out] ; unfold pdqC; rw [← hd2, ← hp]; rfl)
              clear hd2 hp
              have HDS := HDS2
              as_aux_lemma =>
                by_cases ha0 : 0 < a
                · have ga0 : (0 : Int) < (a : Int) := by omega
                  have hl := fun w (h : SS I blk g sf lb sb W d2 w) => h.less HS.out (a - 1) p (by omega) (by omega)
                  rw [show (((a - 1 : Nat) : Int)) = (a : Int) - 1 by omega] at hl
                  cases hv : lt d2[a - 1]! d2[p]!
                  · rw [hv] at hl
                    have HLS := Lib.hid hl
                    have HV := Lib.hid hv
                    have HPE := Lib.hid (fun w h => partEq_any HS.out a b p d2 w h hp1 hp2 hbn)
                    have HTE := Lib.hid (fun h1 h2 => tail_eq (b := b) (lim := lim1) (wb := false) (wp := wp) ha0 HV.out h1 h2)
                    clear hl hv
                    generalize partitionEqual lt d2 a b p = r at HPE HTE
                    obtain ⟨mid, d4⟩ := r
                    dsimp only at HPE HTE
                    go_wp2_with (first
                      | (go_at_call 97; (with_reducible refine (HBP.out _ K1.out.inv).mono ?_); intro e w8 h8; obtain ⟨rfl, h9⟩ := K1.out.call h8; have B1 := Lib.hid h9; have c0 := h9.box.cell0; have c1 := h9.box.cell1; clear h8 h9)
                      | (go_at_call 98; (with_reducible refine (HCP.out _ B1.out.inv).mono ?_); rintro e w8 ⟨rfl, h8, h10⟩; have h9 := B1.out.below HS.out h10; have C1 := Lib.hid h9; clear h10; have c0 := h9.box.cell0; have c1 := h9.box.cell1; clear h8 h9)
                      | (go_at_call 99; (with_reducible refine (HRR.out _ C1.out.inv).mono ?_); intro e w8 h8; obtain ⟨rfl, h9⟩ := C1.out.call h8; have R1 := Lib.hid h9; have c0 := h9.box.cell0; have c1 := h9.box.cell1; clear h8 h9)
                      | (go_at_fn g; refine (HLS.out _ R1.out).mono ?_; rintro e w8 ⟨rfl, h9⟩; have L1 := Lib.hid h9; have h8 := trivial; have c0 := h9.box.cell0; have c1 := h9.box.cell1; clear h8 h9)
                      | (go_at_call 101; (with_reducible refine (HPE.out _ L1.out.inv).mono ?_); intro e w8 h8; obtain ⟨h8, ke1, ke2⟩ := h8; obtain ⟨rfl, h9⟩ := L1.out.call h8; have E1 := Lib.hid h9; have KE := Lib.hid (And.intro ke1 ke2); clear ke1 ke2; have c0 := h9.box.cell0; have c1 := h9.box.cell1; clear h8 h9))
                    have k1 := KE.out.1
                    have k2 := KE.out.2
                    go_roundw
                    case rel => exact ⟨mid, b, lim1, false, wp, _, rfl, rfl, rfl, rfl, rfl, by omega, by omega, by omega, E1.out, by rw [← HTL.out, HTE.out k1 k2], by omega⟩
                    case measure => simp [intOf]; omega
                  · rw [hv] at hl
                    have HLS := Lib.hid hl
                    have HV := Lib.hid hv
                    clear hl hv
                    obtain ⟨r, hr⟩ : ∃ r, partition lt d2 a b p = r := ⟨_, rfl⟩
                    obtain ⟨k1, k2, _⟩ := partition_holds lt HW.out d2 a b p hp1 hp2 (by rw [HDS.out]; exact hbn)
                    have HPT := Lib.hid (fun w h => partit_any HS.out a b p d2 w h hp1 hp2 hbn)
                    rw [hr] at k1 k2 HPT
                    obtain ⟨mid, ap, d4⟩ := r
                    dsimp only at k1 k2 HPT
                    have HTT := Lib.hid (tail_part (lim := lim1) (wb := false) (wp := wp) (Or.inr HV.out) hr k1 k2)
                    obtain ⟨ll, hll⟩ : ∃ ll : Nat, mid - a = ll := ⟨_, rfl⟩
                    obtain ⟨rl, hrl⟩ : ∃ rl : Nat, b - mid = rl := ⟨_, rfl⟩
                    have hll1 : (mid : Int) - (a : Int) = (ll : Int) := by omega
                    have hrl1 : (b : Int) - (mid : Int) = (rl : Int) := by omega
                    clear hr
                    by_cases hlr : mid - a < b - mid
                    · have g9 : (ll : Int) < (rl : Int) := by omega
                      go_wp2_with (first
                        | (go_at_call 97; (with_reducible refine (HBP.out _ K1.out.inv).mono ?_); intro e w8 h8; obtain ⟨rfl, h9⟩ := K1.out.call h8; have B1 := Lib.hid h9; have c0 := h9.box.cell0; have c1 := h9.box.cell1; clear h8 h9)
                        | (go_at_call 98; (with_reducible refine (HCP.out _ B1.out.inv).mono ?_); rintro e w8 ⟨rfl, h8, h10⟩; have h9 := B1.out.below HS.out h10; have C1 := Lib.hid h9; clear h10; have c0 := h9.box.cell0; have c1 := h9.box.cell1; clear h8 h9)
                        | (go_at_call 99; (with_reducible refine (HRR.out _ C1.out.inv).mono ?_); intro e w8 h8; obtain ⟨rfl, h9⟩ := C1.out.call h8; have R1 := Lib.hid h9; have c0 := h9.box.cell0; have c1 := h9.box.cell1; clear h8 h9)
                        | (go_at_fn g; refine (HLS.out _ R1.out).mono ?_; rintro e w8 ⟨rfl, h9⟩; have L1 := Lib.hid h9; have h8 := trivial; have c0 := h9.box.cell0; have c1 := h9.box.cell1; clear h8 h9)
                        | (go_at_call 102; (with_reducible refine (HPT.out _ L1.out.inv).mono ?_); intro e w8 h8; obtain ⟨rfl, h9⟩ := L1.out.call h8; have T1 := Lib.hid h9; have c0 := h9.box.cell0; have c1 := h9.box.cell1; clear h8 h9)
                        | (go_at_call 54; (with_reducible refine (IH.out a mid lim1 d4 _ T1.out.inv (by omega) (by omega) (by omega) (by omega)).mono ?_); intro e w8 h8; obtain ⟨rfl, h9⟩ := T1.out.call h8; have Q1 := Lib.hid h9; have c0 := h9.box.cell0; have c1 := h9.box.cell1; clear h8 h9))
                      go_roundw
                      case rel => exact ⟨mid + 1, b, lim1, _, ap, _, by go_num, rfl, rfl, congrArg Value.bool (show decide (q8 ≤ ll) = decide (mid - a ≥ (b - a) / 8) from decide_eq_decide.2 (by omega)), rfl, by omega, by omega, by omega, Q1.out, by rw [← HTL.out, HTT.out, if_pos hlr], by omega⟩
                      case measure => simp [intOf]; omega
                    · have g9 : ¬ (ll : Int) < (rl : Int) := by omega
                      have IHR := Lib.hid (fun w h => IH.out (mid + 1) b lim1 d4 w h (by omega) (by omega) hbn (by omega))
                      rw [show ((mid + 1 : Nat) : Int) = (mid : Int) + 1 by omega] at IHR
                      go_wp2_with (first
                        | (go_at_call 97; (with_reducible refine (HBP.out _ K1.out.inv).mono ?_); intro e w8 h8; obtain ⟨rfl, h9⟩ := K1.out.call h8; have B1 := Lib.hid h9; have c0 := h9.box.cell0; have c1 := h9.box.cell1; clear h8 h9)
                        | (go_at_call 98; (with_reducible refine (HCP.out _ B1.out.inv).mono ?_); rintro e w8 ⟨rfl, h8, h10⟩; have h9 := B1.out.below HS.out h10; have C1 := Lib.hid h9; clear h10; have c0 := h9.box.cell0; have c1 := h9.box.cell1; clear h8 h9)
                        | (go_at_call 99; (with_reducible refine (HRR.out _ C1.out.inv).mono ?_); intro e w8 h8; obtain ⟨rfl, h9⟩ := C1.out.call h8; have R1 := Lib.hid h9; have c0 := h9.box.cell0; have c1 := h9.box.cell1; clear h8 h9)
                        | (go_at_fn g; refine (HLS.out _ R1.out).mono ?_; rintro e w8 ⟨rfl, h9⟩; have L1 := Lib.hid h9; have h8 := trivial; have c0 := h9.box.cell0; have c1 := h9.box.cell1; clear h8 h9)
                        | (go_at_call 102; (with_reducible refine (HPT.out _ L1.out.inv).mono ?_); intro e w8 h8; obtain ⟨rfl, h9⟩ := L1.out.call h8; have T1 := Lib.hid h9; have c0 := h9.box.cell0; have c1 := h9.box.cell1; clear h8 h9)
                        | (go_at_call 54; (with_reducible refine (IHR.out _ T1.out.inv).mono ?_); intro e w8 h8; obtain ⟨rfl, h9⟩ := T1.out.call h8; have Q1 := Lib.hid h9; have c0 := h9.box.cell0; have c1 := h9.box.cell1; clear h8 h9))
                      go_roundw
                      case rel => exact ⟨a, mid, lim1, _, ap, _, rfl, rfl, rfl, congrArg Value.bool (show decide (q8 ≤ rl) = decide (b - mid ≥ (b - a) / 8) from decide_eq_decide.2 (by omega)), rfl, by omega, by omega, by omega, Q1.out, by rw [← HTL.out, HTT.out, if_neg hlr], by omega⟩
                      case measure => simp [intOf]; omega
                · have ga0 : ¬ (0 : Int) < (a : Int) := by omega
                  obtain ⟨r, hr⟩ : ∃ r, partition lt d2 a b p = r := ⟨_, rfl⟩
                  obtain ⟨k1, k2, _⟩ := partition_holds lt HW.out d2 a b p hp1 hp2 (by rw [HDS.out]; exact hbn)
                  have HPT := Lib.hid (fun w h => partit_any HS.out a b p d2 w h hp1 hp2 hbn)
                  rw [hr] at k1 k2 HPT
                  obtain ⟨mid, ap, d4⟩ := r
                  dsimp only at k1 k2 HPT
                  have HTT := Lib.hid (tail_part (lim := lim1) (wb := false) (wp := wp) (Or.inl ha0) hr k1 k2)
                  obtain ⟨ll, hll⟩ : ∃ ll : Nat, mid - a = ll := ⟨_, rfl⟩
                  obtain ⟨rl, hrl⟩ : ∃ rl : Nat, b - mid = rl := ⟨_, rfl⟩
                  have hll1 : (mid : Int) - (a : Int) = (ll : Int) := by omega
                  have hrl1 : (b : Int) - (mid : Int) = (rl : Int) := by omega
                  clear hr
                  by_cases hlr : mid - a < b - mid
                  · have g9 : (ll : Int) < (rl : Int) := by omega
                    go_wp2_with (first
                      | (go_at_call 97; (with_reducible refine (HBP.out _ K1.out.inv).mono ?_); intro e w8 h8; obtain ⟨rfl, h9⟩ := K1.out.call h8; have B1 := Lib.hid h9; have c0 := h9.box.cell0; have c1 := h9.box.cell1; clear h8 h9)
                      | (go_at_call 98; (with_reducible refine (HCP.out _ B1.out.inv).mono ?_); rintro e w8 ⟨rfl, h8, h10⟩; have h9 := B1.out.below HS.out h10; have C1 := Lib.hid h9; clear h10; have c0 := h9.box.cell0; have c1 := h9.box.cell1; clear h8 h9)
                      | (go_at_call 99; (with_reducible refine (HRR.out _ C1.out.inv).mono ?_); intro e w8 h8; obtain ⟨rfl, h9⟩ := C1.out.call h8; have R1 := Lib.hid h9; have c0 := h9.box.cell0; have c1 := h9.box.cell1; clear h8 h9)
                      | (go_at_call 102; (with_reducible refine (HPT.out _ R1.out.inv).mono ?_); intro e w8 h8; obtain ⟨rfl, h9⟩ := R1.out.call h8; have T1 := Lib.hid h9; have c0 := h9.box.cell0; have c1 := h9.box.cell1; clear h8 h9)
                      | (go_at_call 54; (with_reducible refine (IH.out a mid lim1 d4 _ T1.out.inv (by omega) (by omega) (by omega) (by omega)).mono ?_); intro e w8 h8; obtain ⟨rfl, h9⟩ := T1.out.call h8; have Q1 := Lib.hid h9; have c0 := h9.box.cell0; have c1 := h9.box.cell1; clear h8 h9))
                    go_roundw
                    case rel => exact ⟨mid + 1, b, lim1, _, ap, _, by go_num, rfl, rfl, congrArg Value.bool (show decide (q8 ≤ ll) = decide (mid - a ≥ (b - a) / 8) from decide_eq_decide.2 (by omega)), rfl, by omega, by omega, by omega, Q1.out, by rw [← HTL.out, HTT.out, if_pos hlr], by omega⟩
                    case measure => simp [intOf]; omega
                  · have g9 : ¬ (ll : Int) < (rl : Int) := by omega
                    have IHR := Lib.hid (fun w h => IH.out (mid + 1) b lim1 d4 w h (by omega) (by omega) hbn (by omega))
                    rw [show ((mid + 1 : Nat) : Int) = (mid : Int) + 1 by omega] at IHR
                    go_wp2_with (first
                      | (go_at_call 97; (with_reducible refine (HBP.out _ K1.out.inv).mono ?_); intro e w8 h8; obtain ⟨rfl, h9⟩ := K1.out.call h8; have B1 := Lib.hid h9; have c0 := h9.box.cell0; have c1 := h9.box.cell1; clear h8 h9)
                      | (go_at_call 98; (with_reducible refine (HCP.out _ B1.out.inv).mono ?_); rintro e w8 ⟨rfl, h8, h10⟩; have h9 := B1.out.below HS.out h10; have C1 := Lib.hid h9; clear h10; have c0 := h9.box.cell0; have c1 := h9.box.cell1; clear h8 h9)
                      | (go_at_call 99; (with_reducible refine (HRR.out _ C1.out.inv).mono ?_); intro e w8 h8; obtain ⟨rfl, h9⟩ := C1.out.call h8; have R1 := Lib.hid h9; have c0 := h9.box.cell0; have c1 := h9.box.cell1; clear h8 h9)
                      | (go_at_call 102; (with_reducible refine (HPT.out _ R1.out.inv).mono ?_); intro e w8 h8; obtain ⟨rfl, h9⟩ := R1.out.call h8; have T1 := Lib.hid h9; have c0 := h9.box.cell0; have c1 := h9.box.cell1; clear h8 h9)
                      | (go_at_call 54; (with_reducible refine (IHR.out _ T1.out.inv).mono ?_); intro e w8 h8; obtain ⟨rfl, h9⟩ := T1.out.call h8; have Q1 := Lib.hid h9; have c0 := h9.box.cell0; have c1 := h9.box.cell1; clear h8 h9))
                    go_roundw
                    case rel => exact ⟨a, mid, lim1, _, ap, _, rfl, rfl, rfl, congrArg Value.bool (show decide (q8 ≤ rl) = decide (b - mid ≥ (b - a) / 8) from decide_eq_decide.2 (by omega)), rfl, by omega, by omega, by omega, Q1.out, by rw [← HTL.out, HTT.out, if_neg hlr], by omega⟩
                    case measure => simp [intOf]; omega
          case true =>
            have HU : Hid (pdq lt dk a b lim true wp = pdqC lt (choosePivot lt dk a b) dk a b lim true wp) := Lib.hid HU.out
            have HDS1 := Lib.hid hdk
            cases wp
            case false =>
              have hch := choosePivot_holds lt dk a b (by omega)
              have hcp := fun w h => choosePiv_any HS.out a b dk w h (by omega) hbn
              obtain ⟨r, hr⟩ : ∃ r, choosePivot lt dk a b = r := ⟨_, rfl⟩
              rw [hr] at hch hcp HU
              obtain ⟨p0, hh⟩ := r
              dsimp only at hch hcp
              clear hr
              cases hh
              case unknown =>
                simp only [hintI] at hcp
                have HCP := Lib.hid hcp
                clear hcp
                have hp1 := hch.1
                have hp2 := hch.2
                have HDS2 := HDS1
                have HTL : Hid (pdqTail lt dk a b lim p0 true false = pdq lt d a0 b0 lim0 true true) := Lib.hid (by rw [← K4.out, HU.out]; rfl)
                have HDS := HDS2
                as_aux_lemma =>
                  by_cases ha0 : 0 < a
                  · have ga0 : (0 : Int) < (a : Int) := by omega
                    have hl := fun w (h : SS I blk g sf lb sb W dk w) => h.less HS.out (a - 1) p0 (by omega) (by omega)
                    rw [show (((a - 1 : Nat) : Int)) = (a : Int) - 1 by omega] at hl
                    cases hv : lt dk[a - 1]! dk[p0]!
                    · rw [hv] at hl
                      have HLS := Lib.hid hl
                      have HV := Lib.hid hv
                      have HPE := Lib.hid (fun w h => partEq_any HS.out a b p0 dk w h hp1 hp2 hbn)
                      have HTE := Lib.hid (fun h1 h2 => tail_eq (b := b) (lim := lim) (wb := true) (wp := false) ha0 HV.out h1 h2)
                      clear hl hv
                      generalize partitionEqual lt dk a b p0 = r at HPE HTE
                      obtain ⟨mid, d4⟩ := r
                      dsimp only at HPE HTE
                      go_wp2_with (first
                        | (go_at_call 98; (with_reducible refine (HCP.out _ K1.out.inv).mono ?_); rintro e w8 ⟨rfl, h8, h10⟩; have h9 := K1.out.below HS.out h10; have C1 := Lib.hid h9; clear h10; have c0 := h9.box.cell0; have c1 := h9.box.cell1; clear h8 h9)
                        | (go_at_fn g; refine (HLS.out _ C1.out).mono ?_; rintro e w8 ⟨rfl, h9⟩; have L1 := Lib.hid h9; have h8 := trivial; have c0 := h9.box.cell0; have c1 := h9.box.cell1; clear h8 h9)
                        | (go_at_call 101; (with_reducible refine (HPE.out _ L1.out.inv).mono ?_); intro e w8 h8; obtain ⟨h8, ke1, ke2⟩ := h8; obtain ⟨rfl, h9⟩ := L1.out.call h8; have E1 := Lib.hid h9; have KE := Lib.hid (And.intro ke1 ke2); clear ke1 ke2; have c0 := h9.box.cell0; have c1 := h9.box.cell1; clear h8 h9))
                      have k1 := KE.out.1
                      have k2 := KE.out.2
                      go_roundw
                      case rel => exact ⟨mid, b, lim, true, false, _, rfl, rfl, rfl, rfl, rfl, by omega, by omega, by omega, E1.out, by rw [← HTL.out, HTE.out k1 k2], by omega⟩
                      case measure => simp [intOf]; omega
                    · rw [hv] at hl
                      have HLS := Lib.hid hl
                      have HV := Lib.hid hv
                      clear hl hv
                      obtain ⟨r, hr⟩ : ∃ r, partition lt dk a b p0 = r := ⟨_, rfl⟩
                      obtain ⟨k1, k2, _⟩ := partition_holds lt HW.out dk a b p0 hp1 hp2 (by rw [HDS.out]; exact hbn)
                      have HPT := Lib.hid (fun w h => partit_any HS.out a b p0 dk w h hp1 hp2 hbn)
                      rw [hr] at k1 k2 HPT
                      obtain ⟨mid, ap, d4⟩ := r
                      dsimp only at k1 k2 HPT
                      have HTT := Lib.hid (tail_part (lim := lim) (wb := true) (wp := false) (Or.inr HV.out) hr k1 k2)
                      obtain ⟨ll, hll⟩ : ∃ ll : Nat, mid - a = ll := ⟨_, rfl⟩
                      obtain ⟨rl, hrl⟩ : ∃ rl : Nat, b - mid = rl := ⟨_, rfl⟩
                      have hll1 : (mid : Int) - (a : Int) = (ll : Int) := by omega
                      have hrl1 : (b : Int) - (mid : Int) = (rl : Int) := by omega
                      clear hr
                      by_cases hlr : mid - a < b - mid
                      · have g9 : (ll : Int) < (rl : Int) := by omega
                        go_wp2_with (first
                          | (go_at_call 98; (with_reducible refine (HCP.out _ K1.out.inv).mono ?_); rintro e w8 ⟨rfl, h8, h10⟩; have h9 := K1.out.below HS.out h10; have C1 := Lib.hid h9; clear h10; have c0 := h9.box.cell0; have c1 := h9.box.cell1; clear h8 h9)
                          | (go_at_fn g; refine (HLS.out _ C1.out).mono ?_; rintro e w8 ⟨rfl, h9⟩; have L1 := Lib.hid h9; have h8 := trivial; have c0 := h9.box.cell0; have c1 := h9.box.cell1; clear h8 h9)
                          | (go_at_call 102; (with_reducible refine (HPT.out _ L1.out.inv).mono ?_); intro e w8 h8; obtain ⟨rfl, h9⟩ := L1.out.call h8; have T1 := Lib.hid h9; have c0 := h9.box.cell0; have c1 := h9.box.cell1; clear h8 h9)
                          | (go_at_call 54; (with_reducible refine (IH.out a mid lim d4 _ T1.out.inv (by omega) (by omega) (by omega) (by omega)).mono ?_); intro e w8 h8; obtain ⟨rfl, h9⟩ := T1.out.call h8; have Q1 := Lib.hid h9; have c0 := h9.box.cell0; have c1 := h9.box.cell1; clear h8 h9))
                        go_roundw
                        case rel => exact ⟨mid + 1, b, lim, _, ap, _, by go_num, rfl, rfl, congrArg Value.bool (show decide (q8 ≤ ll) = decide (mid - a ≥ (b - a) / 8) from decide_eq_decide.2 (by omega)), rfl, by omega, by omega, by omega, Q1.out, by rw [← HTL.out, HTT.out, if_pos hlr], by omega⟩
                        case measure => simp [intOf]; omega
                      · have g9 : ¬ (ll : Int) < (rl : Int) := by omega
                        have IHR := Lib.hid (fun w h => IH.out (mid + 1) b lim d4 w h (by omega) (by omega) hbn (by omega))
                        rw [show ((mid + 1 : Nat) : Int) = (mid : Int) + 1 by omega] at IHR
                        go_wp2_with (first
                          | (go_at_call 98; (with_reducible refine (HCP.out _ K1.out.inv).mono ?_); rintro e w8 ⟨rfl, h8, h10⟩; have h9 := K1.out.below HS.out h10; have C1 := Lib.hid h9; clear h10; have c0 := h9.box.cell0; have c1 := h9.box.cell1; clear h8 h9)
                          | (go_at_fn g; refine (HLS.out _ C1.out).mono ?_; rintro e w8 ⟨rfl, h9⟩; have L1 := Lib.hid h9; have h8 := trivial; have c0 := h9.box.cell0; have c1 := h9.box.cell1; clear h8 h9)
                          | (go_at_call 102; (with_reducible refine (HPT.out _ L1.out.inv).mono ?_); intro e w8 h8; obtain ⟨rfl, h9⟩ := L1.out.call h8; have T1 := Lib.hid h9; have c0 := h9.box.cell0; have c1 := h9.box.cell1; clear h8 h9)
                          | (go_at_call 54; (with_reducible refine (IHR.out _ T1.out.inv).mono ?_); intro e w8 h8; obtain ⟨rfl, h9⟩ := T1.out.call h8; have Q1 := Lib.hid h9; have c0 := h9.box.cell0; have c1 := h9.box.cell1; clear h8 h9))
                        go_roundw
                        case rel => exact ⟨a, mid, lim, _, ap, _, rfl, rfl, rfl, congrArg Value.bool (show decide (q8 ≤ rl) = decide (b - mid ≥ (b - a) / 8) from decide_eq_decide.2 (by omega)), rfl, by omega, by omega, by omega, Q1.out, by rw [← HTL.out, HTT.out, if_neg hlr], by omega⟩
                        case measure => simp [intOf]; omega
                  · have ga0 : ¬ (0 : Int) < (a : Int) := by omega
                    obtain ⟨r, hr⟩ : ∃ r, partition lt dk a b p0 = r := ⟨_, rfl⟩
                    obtain ⟨k1, k2, _⟩ := partition_holds lt HW.out dk a b p0 hp1 hp2 (by rw [HDS.out]; exact hbn)
                    have HPT := Lib.hid (fun w h => partit_any HS.out a b p0 dk w h hp1 hp2 hbn)
                    rw [hr] at k1 k2 HPT
                    obtain ⟨mid, ap, d4⟩ := r
                    dsimp only at k1 k2 HPT
                    have HTT := Lib.hid (tail_part (lim := lim) (wb := true) (wp := false) (Or.inl ha0) hr k1 k2)
                    obtain ⟨ll, hll⟩ : ∃ ll : Nat, mid - a = ll := ⟨_, rfl⟩
                    obtain ⟨rl, hrl⟩ : ∃ rl : Nat, b - mid = rl := ⟨_, rfl⟩
                    have hll1 : (mid : Int) - (a : Int) = (ll : Int) := by omega
                    have hrl1 : (b : Int) - (mid : Int) = (rl : Int) := by omega
                    clear hr
                    by_cases hlr : mid - a < b - mid
                    · have g9 : (ll : Int) < (rl : Int) := by omega
                      go_wp2_with (first
                        | (go_at_call 98; (with_reducible refine (HCP.out _ K1.out.inv).mono ?_); rintro e w8 ⟨rfl, h8, h10⟩; have h9 := K1.out.below HS.out h10; have C1 := Lib.hid h9; clear h10; have c0 := h9.box.cell0; have c1 := h9.box.cell1; clear h8 h9)
                        | (go_at_call 102; (with_reducible refine (HPT.out _ C1.out.inv).mono ?_); intro e w8 h8; obtain ⟨rfl, h9⟩ := C1.out.call h8; have T1 := Lib.hid h9; have c0 := h9.box.cell0; have c1 := h9.box.cell1; clear h8 h9)
                        | (go_at_call 54; (with_reducible refine (IH.out a mid lim d4 _ T1.out.inv (by omega) (by omega) (by omega) (by omega)).mono ?_); intro e w8 h8; obtain ⟨rfl, h9⟩ := T1.out.call h8; have Q1 := Lib.hid h9; have c0 := h9.box.cell0; have c1 := h9.box.cell1; clear h8 h9))
                      go_roundw
                      case rel => exact ⟨mid + 1, b, lim, _, ap, _, by go_num, rfl, rfl, congrArg Value.bool (show decide (q8 ≤ ll) = decide (mid - a ≥ (b - a) / 8) from decide_eq_decide.2 (by omega)), rfl, by omega, by omega, by omega, Q1.out, by rw [← HTL.out, HTT.out, if_pos hlr], by omega⟩
                      case measure => simp [intOf]; omega
                    · have g9 : ¬ (ll : Int) < (rl : Int) := by omega
                      have IHR := Lib.hid (fun w h => IH.out (mid + 1) b lim d4 w h (by omega) (by omega) hbn (by omega))
                      rw [show ((mid + 1 : Nat) : Int) = (mid : Int) + 1 by omega] at IHR
                      go_wp2_with (first
                        | (go_at_call 98; (with_reducible refine (HCP.out _ K1.out.inv).mono ?_); rintro e w8 ⟨rfl, h8, h10⟩; have h9 := K1.out.below HS.out h10; have C1 := Lib.hid h9; clear h10; have c0 := h9.box.cell0; have c1 := h9.box.cell1; clear h8 h9)
                        | (go_at_call 102; (with_reducible refine (HPT.out _ C1.out.inv).mono ?_); intro e w8 h8; obtain ⟨rfl, h9⟩ := C1.out.call h8; have T1 := Lib.hid h9; have c0 := h9.box.cell0; have c1 := h9.box.cell1; clear h8 h9)
                        | (go_at_call 54; (with_reducible refine (IHR.out _ T1.out.inv).mono ?_); intro e w8 h8; obtain ⟨rfl, h9⟩ := T1.out.call h8; have Q1 := Lib.hid h9; have c0 := h9.box.cell0; have c1 := h9.box.cell1; clear h8 h9))
                      go_roundw
                      case rel => exact ⟨a, mid, lim, _, ap, _, rfl, rfl, rfl, congrArg Value.bool (show decide (q8 ≤ rl) = decide (b - mid ≥ (b - a) / 8) from decide_eq_decide.2 (by omega)), rfl, by omega, by omega, by omega, Q1.out, by rw [← HTL.out, HTT.out, if_neg hlr], by omega⟩
                      case measure => simp [intOf]; omega
              case increasing =>
                simp only [hintI] at hcp
                have HCP := Lib.hid hcp
                clear hcp
                have hp1 := hch.1
                have hp2 := hch.2
                have HDS2 := HDS1
                have HTL : Hid (pdqTail lt dk a b lim p0 true false = pdq lt d a0 b0 lim0 true true) := Lib.hid (by rw [← K4.out, HU.out]; rfl)
                have HDS := HDS2
                as_aux_lemma =>
                  by_cases ha0 : 0 < a
                  · have ga0 : (0 : Int) < (a : Int) := by omega
                    have hl := fun w (h : SS I blk g sf lb sb W dk w) => h.less HS.out (a - 1) p0 (by omega) (by omega)
                    rw [show (((a - 1 : Nat) : Int)) = (a : Int) - 1 by omega] at hl
                    cases hv : lt dk[a - 1]! dk[p0]!
                    · rw [hv] at hl
                      have HLS := Lib.hid hl
                      have HV := Lib.hid hv
                      have HPE := Lib.hid (fun w h => partEq_any HS.out a b p0 dk w h hp1 hp2 hbn)
                      have HTE := Lib.hid (fun h1 h2 => tail_eq (b := b) (lim := lim) (wb := true) (wp := false) ha0 HV.out h1 h2)
                      clear hl hv
                      generalize partitionEqual lt dk a b p0 = r at HPE HTE
                      obtain ⟨mid, d4⟩ := r
                      dsimp only at HPE HTE
                      go_wp2_with (first
                        | (go_at_call 98; (with_reducible refine (HCP.out _ K1.out.inv).mono ?_); rintro e w8 ⟨rfl, h8, h10⟩; have h9 := K1.out.below HS.out h10; have C1 := Lib.hid h9; clear h10; have c0 := h9.box.cell0; have c1 := h9.box.cell1; clear h8 h9)
                        | (go_at_fn g; refine (HLS.out _ C1.out).mono ?_; rintro e w8 ⟨rfl, h9⟩; have L1 := Lib.hid h9; have h8 := trivial; have c0 := h9.box.cell0; have c1 := h9.box.cell1; clear h8 h9)
                        | (go_at_call 101; (with_reducible refine (HPE.out _ L1.out.inv).mono ?_); intro e w8 h8; obtain ⟨h8, ke1, ke2⟩ := h8; obtain ⟨rfl, h9⟩ := L1.out.call h8; have E1 := Lib.hid h9; have KE := Lib.hid (And.intro ke1 ke2); clear ke1 ke2; have c0 := h9.box.cell0; have c1 := h9.box.cell1; clear h8 h9))
                      have k1 := KE.out.1
                      have k2 := KE.out.2
                      go_roundw
                      case rel => exact ⟨mid, b, lim, true, false, _, rfl, rfl, rfl, rfl, rfl, by omega, by omega, by omega, E1.out, by rw [← HTL.out, HTE.out k1 k2], by omega⟩
                      case measure => simp [intOf]; omega
                    · rw [hv] at hl
                      have HLS := Lib.hid hl
                      have HV := Lib.hid hv
                      clear hl hv
                      obtain ⟨r, hr⟩ : ∃ r, partition lt dk a b p0 = r := ⟨_, rfl⟩
                      obtain ⟨k1, k2, _⟩ := partition_holds lt HW.out dk a b p0 hp1 hp2 (by rw [HDS.out]; exact hbn)
                      have HPT := Lib.hid (fun w h => partit_any HS.out a b p0 dk w h hp1 hp2 hbn)
                      rw [hr] at k1 k2 HPT
                      obtain ⟨mid, ap, d4⟩ := r
                      dsimp only at k1 k2 HPT
                      have HTT := Lib.hid (tail_part (lim := lim) (wb := true) (wp := false) (Or.inr HV.out) hr k1 k2)
                      obtain ⟨ll, hll⟩ : ∃ ll : Nat, mid - a = ll := ⟨_, rfl⟩
                      obtain ⟨rl, hrl⟩ : ∃ rl : Nat, b - mid = rl := ⟨_, rfl⟩
                      have hll1 : (mid : Int) - (a : Int) = (ll : Int) := by omega
                      have hrl1 : (b : Int) - (mid : Int) = (rl : Int) := by omega
                      clear hr
                      by_cases hlr : mid - a < b - mid
                      · have g9 : (ll : Int) < (rl : Int) := by omega
                        go_wp2_with (first
                          | (go_at_call 98; (with_reducible refine (HCP.out _ K1.out.inv).mono ?_); rintro e w8 ⟨rfl, h8, h10⟩; have h9 := K1.out.below HS.out h10; have C1 := Lib.hid h9; clear h10; have c0 := h9.box.cell0; have c1 := h9.box.cell1; clear h8 h9)
                          | (go_at_fn g; refine (HLS.out _ C1.out).mono ?_; rintro e w8 ⟨rfl, h9⟩; have L1 := Lib.hid h9; have h8 := trivial; have c0 := h9.box.cell0; have c1 := h9.box.cell1; clear h8 h9)
                          | (go_at_call 102; (with_reducible refine (HPT.out _ L1.out.inv).mono ?_); intro e w8 h8; obtain ⟨rfl, h9⟩ := L1.out.call h8; have T1 := Lib.hid h9; have c0 := h9.box.cell0; have c1 := h9.box.cell1; clear h8 h9)
                          | (go_at_call 54; (with_reducible refine (IH.out a mid lim d4 _ T1.out.inv (by omega) (by omega) (by omega) (by omega)).mono ?_); intro e w8 h8; obtain ⟨rfl, h9⟩ := T1.out.call h8; have Q1 := Lib.hid h9; have c0 := h9.box.cell0; have c1 := h9.box.cell1; clear h8 h9))
                        go_roundw
                        case rel => exact ⟨mid + 1, b, lim, _, ap, _, by go_num, rfl, rfl, congrArg Value.bool (show decide (q8 ≤ ll) = decide (mid - a ≥ (b - a) / 8) from decide_eq_decide.2 (by omega)), rfl, by omega, by omega, by omega, Q1.out, by rw [← HTL.out, HTT.out, if_pos hlr], by omega⟩
                        case measure => simp [intOf]; omega
                      · have g9 : ¬ (ll : Int) < (rl : Int) := by omega
                        have IHR := Lib.hid (fun w h => IH.out (mid + 1) b lim d4 w h (by omega) (by omega) hbn (by omega))
                        rw [show ((mid + 1 : Nat) : Int) = (mid : Int) + 1 by omega] at IHR
                        go_wp2_with (first
                          | (go_at_call 98; (with_reducible refine (HCP.out _ K1.out.inv).mono ?_); rintro e w8 ⟨rfl, h8, h10⟩; have h9 := K1.out.below HS.out h10; have C1 := Lib.hid h9; clear h10; have c0 := h9.box.cell0; have c1 := h9.box.cell1; clear h8 h9)
                          | (go_at_fn g; refine (HLS.out _ C1.out).mono ?_; rintro e w8 ⟨rfl, h9⟩; have L1 := Lib.hid h9; have h8 := trivial; have c0 := h9.box.cell0; have c1 := h9.box.cell1; clear h8 h9)
                          | (go_at_call 102; (with_reducible refine (HPT.out _ L1.out.inv).mono ?_); intro e w8 h8; obtain ⟨rfl, h9⟩ := L1.out.call h8; have T1 := Lib.hid h9; have c0 := h9.box.cell0; have c1 := h9.box.cell1; clear h8 h9)
                          | (go_at_call 54; (with_reducible refine (IHR.out _ T1.out.inv).mono ?_); intro e w8 h8; obtain ⟨rfl, h9⟩ := T1.out.call h8; have Q1 := Lib.hid h9; have c0 := h9.box.cell0; have c1 := h9.box.cell1; clear h8 h9))
                        go_roundw
                        case rel => exact ⟨a, mid, lim, _, ap, _, rfl, rfl, rfl, congrArg Value.bool (show decide (q8 ≤ rl) = decide (b - mid ≥ (b - a) / 8) from decide_eq_decide.2 (by omega)), rfl, by omega, by omega, by omega, Q1.out, by rw [← HTL.out, HTT.out, if_neg hlr], by omega⟩
                        case measure => simp [intOf]; omega
                  · have ga0 : ¬ (0 : Int) < (a : Int) := by omega
                    obtain ⟨r, hr⟩ : ∃ r, partition lt dk a b p0 = r := ⟨_, rfl⟩
                    obtain ⟨k1, k2, _⟩ := partition_holds lt HW.out dk a b p0 hp1 hp2 (by rw [HDS.out]; exact hbn)
                    have HPT := Lib.hid (fun w h => partit_any HS.out a b p0 dk w h hp1 hp2 hbn)
                    rw [hr] at k1 k2 HPT
                    obtain ⟨mid, ap, d4⟩ := r
                    dsimp only at k1 k2 HPT
                    have HTT := Lib.hid (tail_part (lim := lim) (wb := true) (wp := false) (Or.inl ha0) hr k1 k2)
                    obtain ⟨ll, hll⟩ : ∃ ll : Nat, mid - a = ll := ⟨_, rfl⟩
                    obtain ⟨rl, hrl⟩ : ∃ rl : Nat, b - mid = rl := ⟨_, rfl⟩
                    have hll1 : (mid : Int) - (a : Int) = (ll : Int) := by omega
                    have hrl1 : (b : Int) - (mid : Int) = (rl : Int) := by omega
                    clear hr
                    by_cases hlr : mid - a < b - mid
                    · have g9 : (ll : Int) < (rl : Int) := by omega
                      go_wp2_with (first
                        | (go_at_call 98; (with_reducible refine (HCP.out _ K1.out.inv).mono ?_); rintro e w8 ⟨rfl, h8, h10⟩; have h9 := K1.out.below HS.out h10; have C1 := Lib.hid h9; clear h10; have c0 := h9.box.cell0; have c1 := h9.box.cell1; clear h8 h9)
                        | (go_at_call 102; (with_reducible refine (HPT.out _ C1.out.inv).mono ?_); intro e w8 h8; obtain ⟨rfl, h9⟩ := C1.out.call h8; have T1 := Lib.hid h9; have c0 := h9.box.cell0; have c1 := h9.box.cell1; clear h8 h9)
                        | (go_at_call 54; (with_reducible refine (IH.out a mid lim d4 _ T1.out.inv (by omega) (by omega) (by omega) (by omega)).mono ?_); intro e w8 h8; obtain ⟨rfl, h9⟩ := T1.out.call h8; have Q1 := Lib.hid h9; have c0 := h9.box.cell0; have c1 := h9.box.cell1; clear h8 h9))
                      go_roundw
                      case rel => exact ⟨mid + 1, b, lim, _, ap, _, by go_num, rfl, rfl, congrArg Value.bool (show decide (q8 ≤ ll) = decide (mid - a ≥ (b - a) / 8) from decide_eq_decide.2 (by omega)), rfl, by omega, by omega, by omega, Q1.out, by rw [← HTL.out, HTT.out, if_pos hlr], by omega⟩
                      case measure => simp [intOf]; omega
                    · have g9 : ¬ (ll : Int) < (rl : Int) := by omega
                      have IHR := Lib.hid (fun w h => IH.out (mid + 1) b lim d4 w h (by omega) (by omega) hbn (by omega))
                      rw [show ((mid + 1 : Nat) : Int) = (mid : Int) + 1 by omega] at IHR
                      go_wp2_with (first
                        | (go_at_call 98; (with_reducible refine (HCP.out _ K1.out.inv).mono ?_); rintro e w8 ⟨rfl, h8, h10⟩; have h9 := K1.out.below HS.out h10; have C1 := Lib.hid h9; clear h10; have c0 := h9.box.cell0; have c1 := h9.box.cell1; clear h8 h9)
                        | (go_at_call 102; (with_reducible refine (HPT.out _ C1.out.inv).mono ?_); intro e w8 h8; obtain ⟨rfl, h9⟩ := C1.out.call h8; have T1 := Lib.hid h9; have c0 := h9.box.cell0; have c1 := h9.box.cell1; clear h8 h9)
                        | (go_at_call 54; (with_reducible refine (IHR.out _ T1.out.inv).mono ?_); intro e w8 h8; obtain ⟨rfl, h9⟩ := T1.out.call h8; have Q1 := Lib.hid h9; have c0 := h9.box.cell0; have c1 := h9.box.cell1; clear h8 h9))
                      go_roundw
                      case rel => exact ⟨a, mid, lim, _, ap, _, rfl, rfl, rfl, congrArg Value.bool (show decide (q8 ≤ rl) = decide (b - mid ≥ (b - a) / 8) from decide_eq_decide.2 (by omega)), rfl, by omega, by omega, by omega, Q1.out, by rw [← HTL.out, HTT.out, if_neg hlr], by omega⟩
                      case measure => simp [intOf]; omega
              case decreasing =>
                simp only [hintI] at hcp
                have HCP := Lib.hid hcp
                clear hcp
                obtain ⟨d2, hd2⟩ : ∃ d2, reverseRange dk a b = d2 := ⟨_, rfl⟩
                obtain ⟨p, hp⟩ : ∃ p, (b - 1) - (p0 - a) = p := ⟨_, rfl⟩
                have hp3 : (b : Int) - 1 - ((p0 : Int) - (a : Int)) = (p : Int) := by omega
                have hp1 : a ≤ p := by omega
                have hp2 : p < b := by omega
                have HRR := Lib.hid (fun w h => hd2 ▸ revRange_any HS.out a b dk w h (by omega) hbn)
                have HDS2 : Hid (d2.size = n) := Lib.hid (hd2 ▸ rev_size _ _ _ HDS1.out)
                have HTL : Hid (pdqTail lt d2 a b lim p true false = pdq lt d a0 b0 lim0 true true) := Lib.hid (by rw [← K4.out, HU.out] ; unfold pdqC; rw [← hd2, ← hp]; rfl)
                clear hd2 hp
                have HDS := HDS2
                as_aux_lemma =>
                  by_cases ha0 : 0 < a
                  · have ga0 : (0 : Int) < (a : Int) := by omega
                    have hl := fun w (h : SS I blk g sf lb sb W d2 w) => h.less HS.out (a - 1) p (by omega) (by omega)
                    rw [show (((a - 1 : Nat) : Int)) = (a : Int) - 1 by omega] at hl
                    cases hv : lt d2[a - 1]! d2[p]!
                    · rw [hv] at hl
                      have HLS := Lib.hid hl
                      have HV := Lib.hid hv
                      have HPE := Lib.hid (fun w h => partEq_any HS.out a b p d2 w h hp1 hp2 hbn)
                      have HTE := Lib.hid (fun h1 h2 => tail_eq (b := b) (lim := lim) (wb := true) (wp := false) ha0 HV.out h1 h2)
                      clear hl hv
                      generalize partitionEqual lt d2 a b p = r at HPE HTE
                      obtain ⟨mid, d4⟩ := r
                      dsimp only at HPE HTE
                      go_wp2_with (first
                        | (go_at_call 98; (with_reducible refine (HCP.out _ K1.out.inv).mono ?_); rintro e w8 ⟨rfl, h8, h10⟩; have h9 := K1.out.below HS.out h10; have C1 := Lib.hid h9; clear h10; have c0 := h9.box.cell0; have c1 := h9.box.cell1; clear h8 h9)
                        | (go_at_call 99; (with_reducible refine (HRR.out _ C1.out.inv).mono ?_); intro e w8 h8; obtain ⟨rfl, h9⟩ := C1.out.call h8; have R1 := Lib.hid h9; have c0 := h9.box.cell0; have c1 := h9.box.cell1; clear h8 h9)
                        | (go_at_fn g; refine (HLS.out _ R1.out).mono ?_; rintro e w8 ⟨rfl, h9⟩; have L1 := Lib.hid h9; have h8 := trivial; have c0 := h9.box.cell0; have c1 := h9.box.cell1; clear h8 h9)
                        | (go_at_call 101; (with_reducible refine (HPE.out _ L1.out.inv).mono ?_); intro e w8 h8; obtain ⟨h8, ke1, ke2⟩ := h8; obtain ⟨rfl, h9⟩ := L1.out.call h8; have E1 := Lib.hid h9; have KE := Lib.hid (And.intro ke1 ke2); clear ke1 ke2; have c0 := h9.box.cell0; have c1 := h9.box.cell1; clear h8 h9))
                      have k1 := KE.out.1
                      have k2 := KE.out.2
                      go_roundw
                      case rel => exact ⟨mid, b, lim, true, false, _, rfl, rfl, rfl, rfl, rfl, by omega, by omega, by omega, E1.out, by rw [← HTL.out, HTE.out k1 k2], by omega⟩
                      case measure => simp [intOf]; omega
                    · rw [hv] at hl
                      have HLS := Lib.hid hl
                      have HV := Lib.hid hv
                      clear hl hv
                      obtain ⟨r, hr⟩ : ∃ r, partition lt d2 a b p = r := ⟨_, rfl⟩
                      obtain ⟨k1, k2, _⟩ := partition_holds lt HW.out d2 a b p hp1 hp2 (by rw [HDS.out]; exact hbn)
                      have HPT := Lib.hid (fun w h => partit_any HS.out a b p d2 w h hp1 hp2 hbn)
                      rw [hr] at k1 k2 HPT
                      obtain ⟨mid, ap, d4⟩ := r
                      dsimp only at k1 k2 HPT
                      have HTT := Lib.hid (tail_part (lim := lim) (wb := true) (wp := false) (Or.inr HV.out) hr k1 k2)
                      obtain ⟨ll, hll⟩ : ∃ ll : Nat, mid - a = ll := ⟨_, rfl⟩
                      obtain ⟨rl, hrl⟩ : ∃ rl : Nat, b - mid = rl := ⟨_, rfl⟩
                      have hll1 : (mid : Int) - (a : Int) = (ll : Int) := by omega
                      have hrl1 : (b : Int) - (mid : Int) = (rl : Int) := by omega
                      clear hr
                      by_cases hlr : mid - a < b - mid
                      · have g9 : (ll : Int) < (rl : Int) := by omega
                        go_wp2_with (first
                          | (go_at_call 98; (with_reducible refine (HCP.out _ K1.out.inv).mono ?_); rintro e w8 ⟨rfl, h8, h10⟩; have h9 := K1.out.below HS.out h10; have C1 := Lib.hid h9; clear h10; have c0 := h9.box.cell0; have c1 := h9.box.cell1; clear h8 h9)
                          | (go_at_call 99; (with_reducible refine (HRR.out _ C1.out.inv).mono ?_); intro e w8 h8; obtain ⟨rfl, h9⟩ := C1.out.call h8; have R1 := Lib.hid h9; have c0 := h9.box.cell0; have c1 := h9.box.cell1; clear h8 h9)
                          | (go_at_fn g; refine (HLS.out _ R1.out).mono ?_; rintro e w8 ⟨rfl, h9⟩; have L1 := Lib.hid h9; have h8 := trivial; have c0 := h9.box.cell0; have c1 := h9.box.cell1; clear h8 h9)
                          | (go_at_call 102; (with_reducible refine (HPT.out _ L1.out.inv).mono ?_); intro e w8 h8; obtain ⟨rfl, h9⟩ := L1.out.call h8; have T1 := Lib.hid h9; have c0 := h9.box.cell0; have c1 := h9.box.cell1; clear h8 h9)
                          | (go_at_call 54; (with_reducible refine (IH.out a mid lim d4 _ T1.out.inv (by omega) (by omega) (by omega) (by omega)).mono ?_); intro e w8 h8; obtain ⟨rfl, h9⟩ := T1.out.call h8; have Q1 := Lib.hid h9; have c0 := h9.box.cell0; have c1 := h9.box.cell1; clear h8 h9))
                        go_roundw
                        case rel => exact ⟨mid + 1, b, lim, _, ap, _, by go_num, rfl, rfl, congrArg Value.bool (show decide (q8 ≤ ll) = decide (mid - a ≥ (b - a) / 8) from decide_eq_decide.2 (by omega)), rfl, by omega, by omega, by omega, Q1.out, by rw [← HTL.out, HTT.out, if_pos hlr], by omega⟩
                        case measure => simp [intOf]; omega
                      · have g9 : ¬ (ll : Int) < (rl : Int) := by omega
                        have IHR := Lib.hid (fun w h => IH.out (mid + 1) b lim d4 w h (by omega) (by omega) hbn (by omega))
                        rw [show ((mid + 1 : Nat) : Int) = (mid : Int) + 1 by omega] at IHR
                        go_wp2_with (first
                          | (go_at_call 98; (with_reducible refine (HCP.out _ K1.out.inv).mono ?_); rintro e w8 ⟨rfl, h8, h10⟩; have h9 := K1.out.below HS.out h10; have C1 := Lib.hid h9; clear h10; have c0 := h9.box.cell0; have c1 := h9.box.cell1; clear h8 h9)
                          | (go_at_call 99; (with_reducible refine (HRR.out _ C1.out.inv).mono ?_); intro e w8 h8; obtain ⟨rfl, h9⟩ := C1.out.call h8; have R1 := Lib.hid h9; have c0 := h9.box.cell0; have c1 := h9.box.cell1; clear h8 h9)
                          | (go_at_fn g; refine (HLS.out _ R1.out).mono ?_; rintro e w8 ⟨rfl, h9⟩; have L1 := Lib.hid h9; have h8 := trivial; have c0 := h9.box.cell0; have c1 := h9.box.cell1; clear h8 h9)
                          | (go_at_call 102; (with_reducible refine (HPT.out _ L1.out.inv).mono ?_); intro e w8 h8; obtain ⟨rfl, h9⟩ := L1.out.call h8; have T1 := Lib.hid h9; have c0 := h9.box.cell0; have c1 := h9.box.cell1; clear h8 h9)
                          | (go_at_call 54; (with_reducible refine (IHR.out _ T1.out.inv).mono ?_); intro e w8 h8; obtain ⟨rfl, h9⟩ := T1.out.call h8; have Q1 := Lib.hid h9; have c0 := h9.box.cell0; have c1 := h9.box.cell1; clear h8 h9))
                        go_roundw
                        case rel => exact ⟨a, mid, lim, _, ap, _, rfl, rfl, rfl, congrArg Value.bool (show decide (q8 ≤ rl) = decide (b - mid ≥ (b - a) / 8) from decide_eq_decide.2 (by omega)), rfl, by omega, by omega, by omega, Q1.out, by rw [← HTL.out, HTT.out, if_neg hlr], by omega⟩
                        case measure => simp [intOf]; omega
                  · have ga0 : ¬ (0 : Int) < (a : Int) := by omega
                    obtain ⟨r, hr⟩ : ∃ r, partition lt d2 a b p = r := ⟨_, rfl⟩
                    obtain ⟨k1, k2, _⟩ := partition_holds lt HW.out d2 a b p hp1 hp2 (by rw [HDS.out]; exact hbn)
                    have HPT := Lib.hid (fun w h => partit_any HS.out a b p d2 w h hp1 hp2 hbn)
                    rw [hr] at k1 k2 HPT
                    obtain ⟨mid, ap, d4⟩ := r
                    dsimp only at k1 k2 HPT
                    have HTT := Lib.hid (tail_part (lim := lim) (wb := true) (wp := false) (Or.inl ha0) hr k1 k2)
                    obtain ⟨ll, hll⟩ : ∃ ll : Nat, mid - a = ll := ⟨_, rfl⟩
                    obtain ⟨rl, hrl⟩ : ∃ rl : Nat, b - mid = rl := ⟨_, rfl⟩
                    have hll1 : (mid : Int) - (a : Int) = (ll : Int) := by omega
                    have hrl1 : (b : Int) - (mid : Int) = (rl : Int) := by omega
                    clear hr
                    by_cases hlr : mid - a < b - mid
                    · have g9 : (ll : Int) < (rl : Int) := by omega
                      go_wp2_with (first
                        | (go_at_call 98; (with_reducible refine (HCP.out _ K1.out.inv).mono ?_); rintro e w8 ⟨rfl, h8, h10⟩; have h9 := K1.out.below HS.out h10; have C1 := Lib.hid h9; clear h10; have c0 := h9.box.cell0; have c1 := h9.box.cell1; clear h8 h9)
                        | (go_at_call 99; (with_reducible refine (HRR.out _ C1.out.inv).mono ?_); intro e w8 h8; obtain ⟨rfl, h9⟩ := C1.out.call h8; have R1 := Lib.hid h9; have c0 := h9.box.cell0; have c1 := h9.box.cell1; clear h8 h9)
                        | (go_at_call 102; (with_reducible refine (HPT.out _ R1.out.inv).mono ?_); intro e w8 h8; obtain ⟨rfl, h9⟩ := R1.out.call h8; have T1 := Lib.hid h9; have c0 := h9.box.cell0; have c1 := h9.box.cell1; clear h8 h9)
                        | (go_at_call 54; (with_reducible refine (IH.out a mid lim d4 _ T1.out.inv (by omega) (by omega) (by omega) (by omega)).mono ?_); intro e w8 h8; obtain ⟨rfl, h9⟩ := T1.out.call h8; have Q1 := Lib.hid h9; have c0 := h9.box.cell0; have c1 := h9.box.cell1; clear h8 h9))
                      go_roundw
                      case rel => exact ⟨mid + 1, b, lim, _, ap, _, by go_num, rfl, rfl, congrArg Value.bool (show decide (q8 ≤ ll) = decide (mid - a ≥ (b - a) / 8) from decide_eq_decide.2 (by omega)), rfl, by omega, by omega, by omega, Q1.out, by rw [← HTL.out, HTT.out, if_pos hlr], by omega⟩
                      case measure => simp [intOf]; omega
                    · have g9 : ¬ (ll : Int) < (rl : Int) := by omega
                      have IHR := Lib.hid (fun w h => IH.out (mid + 1) b lim d4 w h (by omega) (by omega) hbn (by omega))
                      rw [show ((mid + 1 : Nat) : Int) = (mid : Int) + 1 by omega] at IHR
                      go_wp2_with (first
                        | (go_at_call 98; (with_reducible refine (HCP.out _ K1.out.inv).mono ?_); rintro e w8 ⟨rfl, h8, h10⟩; have h9 := K1.out.below HS.out h10; have C1 := Lib.hid h9; clear h10; have c0 := h9.box.cell0; have c1 := h9.box.cell1; clear h8 h9)
                        | (go_at_call 99; (with_reducible refine (HRR.out _ C1.out.inv).mono ?_); intro e w8 h8; obtain ⟨rfl, h9⟩ := C1.out.call h8; have R1 := Lib.hid h9; have c0 := h9.box.cell0; have c1 := h9.box.cell1; clear h8 h9)
                        | (go_at_call 102; (with_reducible refine (HPT.out _ R1.out.inv).mono ?_); intro e w8 h8; obtain ⟨rfl, h9⟩ := R1.out.call h8; have T1 := Lib.hid h9; have c0 := h9.box.cell0; have c1 := h9.box.cell1; clear h8 h9)
                        | (go_at_call 54; (with_reducible refine (IHR.out _ T1.out.inv).mono ?_); intro e w8 h8; obtain ⟨rfl, h9⟩ := T1.out.call h8; have Q1 := Lib.hid h9; have c0 := h9.box.cell0; have c1 := h9.box.cell1; clear h8 h9))
                      go_roundw
                      case rel => exact ⟨a, mid, lim, _, ap, _, rfl, rfl, rfl, congrArg Value.bool (show decide (q8 ≤ rl) = decide (b - mid ≥ (b - a) / 8) from decide_eq_decide.2 (by omega)), rfl, by omega, by omega, by omega, Q1.out, by rw [← HTL.out, HTT.out, if_neg hlr], by omega⟩
                      case measure => simp [intOf]; omega
            case true =>
              have hch := choosePivot_holds lt dk a b (by omega)
              have hcp := fun w h => choosePiv_any HS.out a b dk w h (by omega) hbn
              obtain ⟨r, hr⟩ : ∃ r, choosePivot lt dk a b = r := ⟨_, rfl⟩
              rw [hr] at hch hcp HU
              obtain ⟨p0, hh⟩ := r
              dsimp only at hch hcp
              clear hr
              cases hh
              case unknown =>
                simp only [hintI] at hcp
                have HCP := Lib.hid hcp
                clear hcp
                have hp1 := hch.1
                have hp2 := hch.2
                have HDS2 := HDS1
                have HTL : Hid (pdqTail lt dk a b lim p0 true true = pdq lt d a0 b0 lim0 true true) := Lib.hid (by rw [← K4.out, HU.out]; rfl)
                have HDS := HDS2
                as_aux_lemma =>
                  by_cases ha0 : 0 < a
                  · have ga0 : (0 : Int) < (a : Int) := by omega
                    have hl := fun w (h : SS I blk g sf lb sb W dk w) => h.less HS.out (a - 1) p0 (by omega) (by omega)
                    rw [show (((a - 1 : Nat) : Int)) = (a : Int) - 1 by omega] at hl
                    cases hv : lt dk[a - 1]! dk[p0]!
                    · rw [hv] at hl
                      have HLS := Lib.hid hl
                      have HV := Lib.hid hv
                      have HPE := Lib.hid (fun w h => partEq_any HS.out a b p0 dk w h hp1 hp2 hbn)
                      have HTE := Lib.hid (fun h1 h2 => tail_eq (b := b) (lim := lim) (wb := true) (wp := true) ha0 HV.out h1 h2)
                      clear hl hv
                      generalize partitionEqual lt dk a b p0 = r at HPE HTE
                      obtain ⟨mid, d4⟩ := r
                      dsimp only at HPE HTE
                      go_wp2_with (first
                        | (go_at_call 98; (with_reducible refine (HCP.out _ K1.out.inv).mono ?_); rintro e w8 ⟨rfl, h8, h10⟩; have h9 := K1.out.below HS.out h10; have C1 := Lib.hid h9; clear h10; have c0 := h9.box.cell0; have c1 := h9.box.cell1; clear h8 h9)
                        | (go_at_fn g; refine (HLS.out _ C1.out).mono ?_; rintro e w8 ⟨rfl, h9⟩; have L1 := Lib.hid h9; have h8 := trivial; have c0 := h9.box.cell0; have c1 := h9.box.cell1; clear h8 h9)
                        | (go_at_call 101; (with_reducible refine (HPE.out _ L1.out.inv).mono ?_); intro e w8 h8; obtain ⟨h8, ke1, ke2⟩ := h8; obtain ⟨rfl, h9⟩ := L1.out.call h8; have E1 := Lib.hid h9; have KE := Lib.hid (And.intro ke1 ke2); clear ke1 ke2; have c0 := h9.box.cell0; have c1 := h9.box.cell1; clear h8 h9))
                      have k1 := KE.out.1
                      have k2 := KE.out.2
                      go_roundw
                      case rel => exact ⟨mid, b, lim, true, true, _, rfl, rfl, rfl, rfl, rfl, by omega, by omega, by omega, E1.out, by rw [← HTL.out, HTE.out k1 k2], by omega⟩
                      case measure => simp [intOf]; omega
                    · rw [hv] at hl
                      have HLS := Lib.hid hl
                      have HV := Lib.hid hv
                      clear hl hv
                      obtain ⟨r, hr⟩ : ∃ r, partition lt dk a b p0 = r := ⟨_, rfl⟩
                      obtain ⟨k1, k2, _⟩ := partition_holds lt HW.out dk a b p0 hp1 hp2 (by rw [HDS.out]; exact hbn)
                      have HPT := Lib.hid (fun w h => partit_any HS.out a b p0 dk w h hp1 hp2 hbn)
                      rw [hr] at k1 k2 HPT
                      obtain ⟨mid, ap, d4⟩ := r
                      dsimp only at k1 k2 HPT
                      have HTT := Lib.hid (tail_part (lim := lim) (wb := true) (wp := true) (Or.inr HV.out) hr k1 k2)
                      obtain ⟨ll, hll⟩ : ∃ ll : Nat, mid - a = ll := ⟨_, rfl⟩
                      obtain ⟨rl, hrl⟩ : ∃ rl : Nat, b - mid = rl := ⟨_, rfl⟩
                      have hll1 : (mid : Int) - (a : Int) = (ll : Int) := by omega
                      have hrl1 : (b : Int) - (mid : Int) = (rl : Int) := by omega
                      clear hr
                      by_cases hlr : mid - a < b - mid
                      · have g9 : (ll : Int) < (rl : Int) := by omega
                        go_wp2_with (first
                          | (go_at_call 98; (with_reducible refine (HCP.out _ K1.out.inv).mono ?_); rintro e w8 ⟨rfl, h8, h10⟩; have h9 := K1.out.below HS.out h10; have C1 := Lib.hid h9; clear h10; have c0 := h9.box.cell0; have c1 := h9.box.cell1; clear h8 h9)
                          | (go_at_fn g; refine (HLS.out _ C1.out).mono ?_; rintro e w8 ⟨rfl, h9⟩; have L1 := Lib.hid h9; have h8 := trivial; have c0 := h9.box.cell0; have c1 := h9.box.cell1; clear h8 h9)
                          | (go_at_call 102; (with_reducible refine (HPT.out _ L1.out.inv).mono ?_); intro e w8 h8; obtain ⟨rfl, h9⟩ := L1.out.call h8; have T1 := Lib.hid h9; have c0 := h9.box.cell0; have c1 := h9.box.cell1; clear h8 h9)
                          | (go_at_call 54; (with_reducible refine (IH.out a mid lim d4 _ T1.out.inv (by omega) (by omega) (by omega) (by omega)).mono ?_); intro e w8 h8; obtain ⟨rfl, h9⟩ := T1.out.call h8; have Q1 := Lib.hid h9; have c0 := h9.box.cell0; have c1 := h9.box.cell1; clear h8 h9))
                        go_roundw
                        case rel => exact ⟨mid + 1, b, lim, _, ap, _, by go_num, rfl, rfl, congrArg Value.bool (show decide (q8 ≤ ll) = decide (mid - a ≥ (b - a) / 8) from decide_eq_decide.2 (by omega)), rfl, by omega, by omega, by omega, Q1.out, by rw [← HTL.out, HTT.out, if_pos hlr], by omega⟩
                        case measure => simp [intOf]; omega
                      · have g9 : ¬ (ll : Int) < (rl : Int) := by omega
                        have IHR := Lib.hid (fun w h => IH.out (mid + 1) b lim d4 w h (by omega) (by omega) hbn (by omega))
                        rw [show ((mid + 1 : Nat) : Int) = (mid : Int) + 1 by omega] at IHR
                        go_wp2_with (first
                          | (go_at_call 98; (with_reducible refine (HCP.out _ K1.out.inv).mono ?_); rintro e w8 ⟨rfl, h8, h10⟩; have h9 := K1.out.below HS.out h10; have C1 := Lib.hid h9; clear h10; have c0 := h9.box.cell0; have c1 := h9.box.cell1; clear h8 h9)
                          | (go_at_fn g; refine (HLS.out _ C1.out).mono ?_; rintro e w8 ⟨rfl, h9⟩; have L1 := Lib.hid h9; have h8 := trivial; have c0 := h9.box.cell0; have c1 := h9.box.cell1; clear h8 h9)
                          | (go_at_call 102; (with_reducible refine (HPT.out _ L1.out.inv).mono ?_); intro e w8 h8; obtain ⟨rfl, h9⟩ := L1.out.call h8; have T1 := Lib.hid h9; have c0 := h9.box.cell0; have c1 := h9.box.cell1; clear h8 h9)
                          | (go_at_call 54; (with_reducible refine (IHR.out _ T1.out.inv).mono ?_); intro e w8 h8; obtain ⟨rfl, h9⟩ := T1.out.call h8; have Q1 := Lib.hid h9; have c0 := h9.box.cell0; have c1 := h9.box.cell1; clear h8 h9))
                        go_roundw
                        case rel => exact ⟨a, mid, lim, _, ap, _, rfl, rfl, rfl, congrArg Value.bool (show decide (q8 ≤ rl) = decide (b - mid ≥ (b - a) / 8) from decide_eq_decide.2 (by omega)), rfl, by omega, by omega, by omega, Q1.out, by rw [← HTL.out, HTT.out, if_neg hlr], by omega⟩
                        case measure => simp [intOf]; omega
                  · have ga0 : ¬ (0 : Int) < (a : Int) := by omega
                    obtain ⟨r, hr⟩ : ∃ r, partition lt dk a b p0 = r := ⟨_, rfl⟩
                    obtain ⟨k1, k2, _⟩ := partition_holds lt HW.out dk a b p0 hp1 hp2 (by rw [HDS.out]; exact hbn)
                    have HPT := Lib.hid (fun w h => partit_any HS.out a b p0 dk w h hp1 hp2 hbn)
                    rw [hr] at k1 k2 HPT
                    obtain ⟨mid, ap, d4⟩ := r
                    dsimp only at k1 k2 HPT
                    have HTT := Lib.hid (tail_part (lim := lim) (wb := true) (wp := true) (Or.inl ha0) hr k1 k2)
                    obtain ⟨ll, hll⟩ : ∃ ll : Nat, mid - a = ll := ⟨_, rfl⟩
                    obtain ⟨rl, hrl⟩ : ∃ rl : Nat, b - mid = rl := ⟨_, rfl⟩
                    have hll1 : (mid : Int) - (a : Int) = (ll : Int) := by omega
                    have hrl1 : (b : Int) - (mid : Int) = (rl : Int) := by omega
                    clear hr
                    by_cases hlr : mid - a < b - mid
                    · have g9 : (ll : Int) < (rl : Int) := by omega
                      go_wp2_with (first
                        | (go_at_call 98; (with_reducible refine (HCP.out _ K1.out.inv).mono ?_); rintro e w8 ⟨rfl, h8, h10⟩; have h9 := K1.out.below HS.out h10; have C1 := Lib.hid h9; clear h10; have c0 := h9.box.cell0; have c1 := h9.box.cell1; clear h8 h9)
                        | (go_at_call 102; (with_reducible refine (HPT.out _ C1.out.inv).mono ?_); intro e w8 h8; obtain ⟨rfl, h9⟩ := C1.out.call h8; have T1 := Lib.hid h9; have c0 := h9.box.cell0; have c1 := h9.box.cell1; clear h8 h9)
                        | (go_at_call 54; (with_reducible refine (IH.out a mid lim d4 _ T1.out.inv (by omega) (by omega) (by omega) (by omega)).mono ?_); intro e w8 h8; obtain ⟨rfl, h9⟩ := T1.out.call h8; have Q1 := Lib.hid h9; have c0 := h9.box.cell0; have c1 := h9.box.cell1; clear h8 h9))
                      go_roundw
                      case rel => exact ⟨mid + 1, b, lim, _, ap, _, by go_num, rfl, rfl, congrArg Value.bool (show decide (q8 ≤ ll) = decide (mid - a ≥ (b - a) / 8) from decide_eq_decide.2 (by omega)), rfl, by omega, by omega, by omega, Q1.out, by rw [← HTL.out, HTT.out, if_pos hlr], by omega⟩
                      case measure => simp [intOf]; omega
                    · have g9 : ¬ (ll : Int) < (rl : Int) := by omega
                      have IHR := Lib.hid (fun w h => IH.out (mid + 1) b lim d4 w h (by omega) (by omega) hbn (by omega))
                      rw [show ((mid + 1 : Nat) : Int) = (mid : Int) + 1 by omega] at IHR
                      go_wp2_with (first
                        | (go_at_call 98; (with_reducible refine (HCP.out _ K1.out.inv).mono ?_); rintro e w8 ⟨rfl, h8, h10⟩; have h9 := K1.out.below HS.out h10; have C1 := Lib.hid h9; clear h10; have c0 := h9.box.cell0; have c1 := h9.box.cell1; clear h8 h9)
                        | (go_at_call 102; (with_reducible refine (HPT.out _ C1.out.inv).mono ?_); intro e w8 h8; obtain ⟨rfl, h9⟩ := C1.out.call h8; have T1 := Lib.hid h9; have c0 := h9.box.cell0; have c1 := h9.box.cell1; clear h8 h9)
                        | (go_at_call 54; (with_reducible refine (IHR.out _ T1.out.inv).mono ?_); intro e w8 h8; obtain ⟨rfl, h9⟩ := T1.out.call h8; have Q1 := Lib.hid h9; have c0 := h9.box.cell0; have c1 := h9.box.cell1; clear h8 h9))
                      go_roundw
                      case rel => exact ⟨a, mid, lim, _, ap, _, rfl, rfl, rfl, congrArg Value.bool (show decide (q8 ≤ rl) = decide (b - mid ≥ (b - a) / 8) from decide_eq_decide.2 (by omega)), rfl, by omega, by omega, by omega, Q1.out, by rw [← HTL.out, HTT.out, if_neg hlr], by omega⟩
                      case measure => simp [intOf]; omega
              case increasing =>
                simp only [hintI] at hcp
                have HCP := Lib.hid hcp
                clear hcp
                have hp1 := hch.1
                have hp2 := hch.2
                have HDS2 := HDS1
                have HTL : Hid (pdqPi lt (partialInsertionSort lt dk a b) a b lim p0 true true = pdq lt d a0 b0 lim0 true true) := Lib.hid (by rw [← K4.out, HU.out]; rfl)
                have HPI := Lib.hid (fun w h => partIns_any HS.out a b dk w h (by omega) hbn)
                generalize partialInsertionSort lt dk a b = r at HPI HTL
                obtain ⟨d3, z⟩ := r
                dsimp only at HPI
                cases z
                · have HTL : Hid (pdqTail lt d3 a b lim p0 true true = pdq lt d a0 b0 lim0 true true) := Lib.hid HTL.out
                  by_cases hd3 : d3.size = n
                  · have HDS := Lib.hid hd3
                    clear hd3
                    as_aux_lemma =>
                      by_cases ha0 : 0 < a
                      · have ga0 : (0 : Int) < (a : Int) := by omega
                        have hl := fun w (h : SS I blk g sf lb sb W d3 w) => h.less HS.out (a - 1) p0 (by omega) (by omega)
                        rw [show (((a - 1 : Nat) : Int)) = (a : Int) - 1 by omega] at hl
                        cases hv : lt d3[a - 1]! d3[p0]!
                        · rw [hv] at hl
                          have HLS := Lib.hid hl
                          have HV := Lib.hid hv
                          have HPE := Lib.hid (fun w h => partEq_any HS.out a b p0 d3 w h hp1 hp2 hbn)
                          have HTE := Lib.hid (fun h1 h2 => tail_eq (b := b) (lim := lim) (wb := true) (wp := true) ha0 HV.out h1 h2)
                          clear hl hv
                          generalize partitionEqual lt d3 a b p0 = r at HPE HTE
                          obtain ⟨mid, d4⟩ := r
                          dsimp only at HPE HTE
                          go_wp2_with (first
                            | (go_at_call 98; (with_reducible refine (HCP.out _ K1.out.inv).mono ?_); rintro e w8 ⟨rfl, h8, h10⟩; have h9 := K1.out.below HS.out h10; have C1 := Lib.hid h9; clear h10; have c0 := h9.box.cell0; have c1 := h9.box.cell1; clear h8 h9)
                            | (go_at_call 100; (with_reducible refine (HPI.out _ C1.out.inv).mono ?_); intro e w8 h8; obtain ⟨rfl, h9⟩ := C1.out.call h8; have P1 := Lib.hid h9; have c0 := h9.box.cell0; have c1 := h9.box.cell1; clear h8 h9)
                            | (go_at_fn g; refine (HLS.out _ P1.out).mono ?_; rintro e w8 ⟨rfl, h9⟩; have L1 := Lib.hid h9; have h8 := trivial; have c0 := h9.box.cell0; have c1 := h9.box.cell1; clear h8 h9)
                            | (go_at_call 101; (with_reducible refine (HPE.out _ L1.out.inv).mono ?_); intro e w8 h8; obtain ⟨h8, ke1, ke2⟩ := h8; obtain ⟨rfl, h9⟩ := L1.out.call h8; have E1 := Lib.hid h9; have KE := Lib.hid (And.intro ke1 ke2); clear ke1 ke2; have c0 := h9.box.cell0; have c1 := h9.box.cell1; clear h8 h9))
                          have k1 := KE.out.1
                          have k2 := KE.out.2
                          go_roundw
                          case rel => exact ⟨mid, b, lim, true, true, _, rfl, rfl, rfl, rfl, rfl, by omega, by omega, by omega, E1.out, by rw [← HTL.out, HTE.out k1 k2], by omega⟩
                          case measure => simp [intOf]; omega
                        · rw [hv] at hl
                          have HLS := Lib.hid hl
                          have HV := Lib.hid hv
                          clear hl hv
                          obtain ⟨r, hr⟩ : ∃ r, partition lt d3 a b p0 = r := ⟨_, rfl⟩
                          obtain ⟨k1, k2, _⟩ := partition_holds lt HW.out d3 a b p0 hp1 hp2 (by rw [HDS.out]; exact hbn)
                          have HPT := Lib.hid (fun w h => partit_any HS.out a b p0 d3 w h hp1 hp2 hbn)
                          rw [hr] at k1 k2 HPT
                          obtain ⟨mid, ap, d4⟩ := r
                          dsimp only at k1 k2 HPT
                          have HTT := Lib.hid (tail_part (lim := lim) (wb := true) (wp := true) (Or.inr HV.out) hr k1 k2)
                          obtain ⟨ll, hll⟩ : ∃ ll : Nat, mid - a = ll := ⟨_, rfl⟩
                          obtain ⟨rl, hrl⟩ : ∃ rl : Nat, b - mid = rl := ⟨_, rfl⟩
                          have hll1 : (mid : Int) - (a : Int) = (ll : Int) := by omega
                          have hrl1 : (b : Int) - (mid : Int) = (rl : Int) := by omega
                          clear hr
                          by_cases hlr : mid - a < b - mid
                          · have g9 : (ll : Int) < (rl : Int) := by omega
                            go_wp2_with (first
                              | (go_at_call 98; (with_reducible refine (HCP.out _ K1.out.inv).mono ?_); rintro e w8 ⟨rfl, h8, h10⟩; have h9 := K1.out.below HS.out h10; have C1 := Lib.hid h9; clear h10; have c0 := h9.box.cell0; have c1 := h9.box.cell1; clear h8 h9)
                              | (go_at_call 100; (with_reducible refine (HPI.out _ C1.out.inv).mono ?_); intro e w8 h8; obtain ⟨rfl, h9⟩ := C1.out.call h8; have P1 := Lib.hid h9; have c0 := h9.box.cell0; have c1 := h9.box.cell1; clear h8 h9)
                              | (go_at_fn g; refine (HLS.out _ P1.out).mono ?_; rintro e w8 ⟨rfl, h9⟩; have L1 := Lib.hid h9; have h8 := trivial; have c0 := h9.box.cell0; have c1 := h9.box.cell1; clear h8 h9)
                              | (go_at_call 102; (with_reducible refine (HPT.out _ L1.out.inv).mono ?_); intro e w8 h8; obtain ⟨rfl, h9⟩ := L1.out.call h8; have T1 := Lib.hid h9; have c0 := h9.box.cell0; have c1 := h9.box.cell1; clear h8 h9)
                              | (go_at_call 54; (with_reducible refine (IH.out a mid lim d4 _ T1.out.inv (by omega) (by omega) (by omega) (by omega)).mono ?_); intro e w8 h8; obtain ⟨rfl, h9⟩ := T1.out.call h8; have Q1 := Lib.hid h9; have c0 := h9.box.cell0; have c1 := h9.box.cell1; clear h8 h9))
                            go_roundw
                            case rel => exact ⟨mid + 1, b, lim, _, ap, _, by go_num, rfl, rfl, congrArg Value.bool (show decide (q8 ≤ ll) = decide (mid - a ≥ (b - a) / 8) from decide_eq_decide.2 (by omega)), rfl, by omega, by omega, by omega, Q1.out, by rw [← HTL.out, HTT.out, if_pos hlr], by omega⟩
                            case measure => simp [intOf]; omega
                          · have g9 : ¬ (ll : Int) < (rl : Int) := by omega
                            have IHR := Lib.hid (fun w h => IH.out (mid + 1) b lim d4 w h (by omega) (by omega) hbn (by omega))
                            rw [show ((mid + 1 : Nat) : Int) = (mid : Int) + 1 by omega] at IHR
                            go_wp2_with (first
                              | (go_at_call 98; (with_reducible refine (HCP.out _ K1.out.inv).mono ?_); rintro e w8 ⟨rfl, h8, h10⟩; have h9 := K1.out.below HS.out h10; have C1 := Lib.hid h9; clear h10; have c0 := h9.box.cell0; have c1 := h9.box.cell1; clear h8 h9)
                              | (go_at_call 100; (with_reducible refine (HPI.out _ C1.out.inv).mono ?_); intro e w8 h8; obtain ⟨rfl, h9⟩ := C1.out.call h8; have P1 := Lib.hid h9; have c0 := h9.box.cell0; have c1 := h9.box.cell1; clear h8 h9)
                              | (go_at_fn g; refine (HLS.out _ P1.out).mono ?_; rintro e w8 ⟨rfl, h9⟩; have L1 := Lib.hid h9; have h8 := trivial; have c0 := h9.box.cell0; have c1 := h9.box.cell1; clear h8 h9)
                              | (go_at_call 102; (with_reducible refine (HPT.out _ L1.out.inv).mono ?_); intro e w8 h8; obtain ⟨rfl, h9⟩ := L1.out.call h8; have T1 := Lib.hid h9; have c0 := h9.box.cell0; have c1 := h9.box.cell1; clear h8 h9)
                              | (go_at_call 54; (with_reducible refine (IHR.out _ T1.out.inv).mono ?_); intro e w8 h8; obtain ⟨rfl, h9⟩ := T1.out.call h8; have Q1 := Lib.hid h9; have c0 := h9.box.cell0; have c1 := h9.box.cell1; clear h8 h9))
                            go_roundw
                            case rel => exact ⟨a, mid, lim, _, ap, _, rfl, rfl, rfl, congrArg Value.bool (show decide (q8 ≤ rl) = decide (b - mid ≥ (b - a) / 8) from decide_eq_decide.2 (by omega)), rfl, by omega, by omega, by omega, Q1.out, by rw [← HTL.out, HTT.out, if_neg hlr], by omega⟩
                            case measure => simp [intOf]; omega
                      · have ga0 : ¬ (0 : Int) < (a : Int) := by omega
                        obtain ⟨r, hr⟩ : ∃ r, partition lt d3 a b p0 = r := ⟨_, rfl⟩
                        obtain ⟨k1, k2, _⟩ := partition_holds lt HW.out d3 a b p0 hp1 hp2 (by rw [HDS.out]; exact hbn)
                        have HPT := Lib.hid (fun w h => partit_any HS.out a b p0 d3 w h hp1 hp2 hbn)
                        rw [hr] at k1 k2 HPT
                        obtain ⟨mid, ap, d4⟩ := r
                        dsimp only at k1 k2 HPT
                        have HTT := Lib.hid (tail_part (lim := lim) (wb := true) (wp := true) (Or.inl ha0) hr k1 k2)
                        obtain ⟨ll, hll⟩ : ∃ ll : Nat, mid - a = ll := ⟨_, rfl⟩
                        obtain ⟨rl, hrl⟩ : ∃ rl : Nat, b - mid = rl := ⟨_, rfl⟩
                        have hll1 : (mid : Int) - (a : Int) = (ll : Int) := by omega
                        have hrl1 : (b : Int) - (mid : Int) = (rl : Int) := by omega
                        clear hr
                        by_cases hlr : mid - a < b - mid
                        · have g9 : (ll : Int) < (rl : Int) := by omega
                          go_wp2_with (first
                            | (go_at_call 98; (with_reducible refine (HCP.out _ K1.out.inv).mono ?_); rintro e w8 ⟨rfl, h8, h10⟩; have h9 := K1.out.below HS.out h10; have C1 := Lib.hid h9; clear h10; have c0 := h9.box.cell0; have c1 := h9.box.cell1; clear h8 h9)
                            | (go_at_call 100; (with_reducible refine (HPI.out _ C1.out.inv).mono ?_); intro e w8 h8; obtain ⟨rfl, h9⟩ := C1.out.call h8; have P1 := Lib.hid h9; have c0 := h9.box.cell0; have c1 := h9.box.cell1; clear h8 h9)
                            | (go_at_call 102; (with_reducible refine (HPT.out _ P1.out.inv).mono ?_); intro e w8 h8; obtain ⟨rfl, h9⟩ := P1.out.call h8; have T1 := Lib.hid h9; have c0 := h9.box.cell0; have c1 := h9.box.cell1; clear h8 h9)
                            | (go_at_call 54; (with_reducible refine (IH.out a mid lim d4 _ T1.out.inv (by omega) (by omega) (by omega) (by omega)).mono ?_); intro e w8 h8; obtain ⟨rfl, h9⟩ := T1.out.call h8; have Q1 := Lib.hid h9; have c0 := h9.box.cell0; have c1 := h9.box.cell1; clear h8 h9))
                          go_roundw
                          case rel => exact ⟨mid + 1, b, lim, _, ap, _, by go_num, rfl, rfl, congrArg Value.bool (show decide (q8 ≤ ll) = decide (mid - a ≥ (b - a) / 8) from decide_eq_decide.2 (by omega)), rfl, by omega, by omega, by omega, Q1.out, by rw [← HTL.out, HTT.out, if_pos hlr], by omega⟩
                          case measure => simp [intOf]; omega
                        · have g9 : ¬ (ll : Int) < (rl : Int) := by omega
                          have IHR := Lib.hid (fun w h => IH.out (mid + 1) b lim d4 w h (by omega) (by omega) hbn (by omega))
                          rw [show ((mid + 1 : Nat) : Int) = (mid : Int) + 1 by omega] at IHR
                          go_wp2_with (first
                            | (go_at_call 98; (with_reducible refine (HCP.out _ K1.out.inv).mono ?_); rintro e w8 ⟨rfl, h8, h10⟩; have h9 := K1.out.below HS.out h10; have C1 := Lib.hid h9; clear h10; have c0 := h9.box.cell0; have c1 := h9.box.cell1; clear h8 h9)
                            | (go_at_call 100; (with_reducible refine (HPI.out _ C1.out.inv).mono ?_); intro e w8 h8; obtain ⟨rfl, h9⟩ := C1.out.call h8; have P1 := Lib.hid h9; have c0 := h9.box.cell0; have c1 := h9.box.cell1; clear h8 h9)
                            | (go_at_call 102; (with_reducible refine (HPT.out _ P1.out.inv).mono ?_); intro e w8 h8; obtain ⟨rfl, h9⟩ := P1.out.call h8; have T1 := Lib.hid h9; have c0 := h9.box.cell0; have c1 := h9.box.cell1; clear h8 h9)
                            | (go_at_call 54; (with_reducible refine (IHR.out _ T1.out.inv).mono ?_); intro e w8 h8; obtain ⟨rfl, h9⟩ := T1.out.call h8; have Q1 := Lib.hid h9; have c0 := h9.box.cell0; have c1 := h9.box.cell1; clear h8 h9))
                          go_roundw
                          case rel => exact ⟨a, mid, lim, _, ap, _, rfl, rfl, rfl, congrArg Value.bool (show decide (q8 ≤ rl) = decide (b - mid ≥ (b - a) / 8) from decide_eq_decide.2 (by omega)), rfl, by omega, by omega, by omega, Q1.out, by rw [← HTL.out, HTT.out, if_neg hlr], by omega⟩
                          case measure => simp [intOf]; omega
                  · go_wp2_with (first
                      | (go_at_call 98; (with_reducible refine (HCP.out _ K1.out.inv).mono ?_); rintro e w8 ⟨rfl, h8, h10⟩; have h9 := K1.out.below HS.out h10; have C1 := Lib.hid h9; clear h10; have c0 := h9.box.cell0; have c1 := h9.box.cell1; clear h8 h9)
                      | (go_at_call 100; (with_reducible refine (HPI.out _ C1.out.inv).mono ?_); intro e w8 h8; exact absurd (HS.out.size _ _ h8.2.1) hd3))
                · have HTL : Hid (d3 = pdq lt d a0 b0 lim0 true true) := Lib.hid HTL.out
                  go_wp2_with (first
                    | (go_at_call 98; (with_reducible refine (HCP.out _ K1.out.inv).mono ?_); rintro e w8 ⟨rfl, h8, h10⟩; have h9 := K1.out.below HS.out h10; have C1 := Lib.hid h9; clear h10; have c0 := h9.box.cell0; have c1 := h9.box.cell1; clear h8 h9)
                    | (go_at_call 100; (with_reducible refine (HPI.out _ C1.out.inv).mono ?_); intro e w8 h8; obtain ⟨rfl, h9⟩ := C1.out.call h8; have P1 := Lib.hid h9; have c0 := h9.box.cell0; have c1 := h9.box.cell1; clear h8 h9))
                  go_end0
                  have := P1.out.done (.tuple #[])
                  rwa [HTL.out] at this
              case decreasing =>
                simp only [hintI] at hcp
                have HCP := Lib.hid hcp
                clear hcp
                obtain ⟨d2, hd2⟩ : ∃ d2, reverseRange dk a b = d2 := ⟨_, rfl⟩
                obtain ⟨p, hp⟩ : ∃ p, (b - 1) - (p0 - a) = p := ⟨_, rfl⟩
                have hp3 : (b : Int) - 1 - ((p0 : Int) - (a : Int)) = (p : Int) := by omega
                have hp1 : a ≤ p := by omega
                have hp2 : p < b := by omega
                have HRR := Lib.hid (fun w h => hd2 ▸ revRange_any HS.out a b dk w h (by omega) hbn)
                have HDS2 : Hid (d2.size = n) := Lib.hid (hd2 ▸ rev_size _ _ _ HDS1.out)
                have HTL : Hid (pdqPi lt (partialInsertionSort lt d2 a b) a b lim p true true = pdq lt d a0 b0 lim0 true true) := Lib.hid (by rw [← K4.out, HU.out] ; unfold pdqC; rw [← hd2, ← hp]; rfl)
                clear hd2 hp
                have HPI := Lib.hid (fun w h => partIns_any HS.out a b d2 w h (by omega) hbn)
                generalize partialInsertionSort lt d2 a b = r at HPI HTL
                obtain ⟨d3, z⟩ := r
                dsimp only at HPI
                cases z
                · have HTL : Hid (pdqTail lt d3 a b lim p true true = pdq lt d a0 b0 lim0 true true) := Lib.hid HTL.out
                  by_cases hd3 : d3.size = n
                  · have HDS := Lib.hid hd3
                    clear hd3
                    as_aux_lemma =>
                      by_cases ha0 : 0 < a
                      · have ga0 : (0 : Int) < (a : Int) := by omega
                        have hl := fun w (h : SS I blk g sf lb sb W d3 w) => h.less HS.out (a - 1) p (by omega) (by omega)
                        rw [show (((a - 1 : Nat) : Int)) = (a : Int) - 1 by omega] at hl
                        cases hv : lt d3[a - 1]! d3[p]!
                        · rw [hv] at hl
                          have HLS := Lib.hid hl
                          have HV := Lib.hid hv
                          have HPE := Lib.hid (fun w h => partEq_any HS.out a b p d3 w h hp1 hp2 hbn)
                          have HTE := Lib.hid (fun h1 h2 => tail_eq (b := b) (lim := lim) (wb := true) (wp := true) ha0 HV.out h1 h2)
                          clear hl hv
                          generalize partitionEqual lt d3 a b p = r at HPE HTE
                          obtain ⟨mid, d4⟩ := r
                          dsimp only at HPE HTE
                          go_wp2_with (first
                            | (go_at_call 98; (with_reducible refine (HCP.out _ K1.out.inv).mono ?_); rintro e w8 ⟨rfl, h8, h10⟩; have h9 := K1.out.below HS.out h10; have C1 := Lib.hid h9; clear h10; have c0 := h9.box.cell0; have c1 := h9.box.cell1; clear h8 h9)
                            | (go_at_call 99; (with_reducible refine (HRR.out _ C1.out.inv).mono ?_); intro e w8 h8; obtain ⟨rfl, h9⟩ := C1.out.call h8; have R1 := Lib.hid h9; have c0 := h9.box.cell0; have c1 := h9.box.cell1; clear h8 h9)
                            | (go_at_call 100; (with_reducible refine (HPI.out _ R1.out.inv).mono ?_); intro e w8 h8; obtain ⟨rfl, h9⟩ := R1.out.call h8; have P1 := Lib.hid h9; have c0 := h9.box.cell0; have c1 := h9.box.cell1; clear h8 h9)
                            | (go_at_fn g; refine (HLS.out _ P1.out).mono ?_; rintro e w8 ⟨rfl, h9⟩; have L1 := Lib.hid h9; have h8 := trivial; have c0 := h9.box.cell0; have c1 := h9.box.cell1; clear h8 h9)
                            | (go_at_call 101; (with_reducible refine (HPE.out _ L1.out.inv).mono ?_); intro e w8 h8; obtain ⟨h8, ke1, ke2⟩ := h8; obtain ⟨rfl, h9⟩ := L1.out.call h8; have E1 := Lib.hid h9; have KE := Lib.hid (And.intro ke1 ke2); clear ke1 ke2; have c0 := h9.box.cell0; have c1 := h9.box.cell1; clear h8 h9))
                          have k1 := KE.out.1
                          have k2 := KE.out.2
                          go_roundw
                          case rel => exact ⟨mid, b, lim, true, true, _, rfl, rfl, rfl, rfl, rfl, by omega, by omega, by omega, E1.out, by rw [← HTL.out, HTE.out k1 k2], by omega⟩
                          case measure => simp [intOf]; omega
                        · rw [hv] at hl
                          have HLS := Lib.hid hl
                          have HV := Lib.hid hv
                          clear hl hv
                          obtain ⟨r, hr⟩ : ∃ r, partition lt d3 a b p = r := ⟨_, rfl⟩
                          obtain ⟨k1, k2, _⟩ := partition_holds lt HW.out d3 a b p hp1 hp2 (by rw [HDS.out]; exact hbn)
                          have HPT := Lib.hid (fun w h => partit_any HS.out a b p d3 w h hp1 hp2 hbn)
                          rw [hr] at k1 k2 HPT
                          obtain ⟨mid, ap, d4⟩ := r
                          dsimp only at k1 k2 HPT
                          have HTT := Lib.hid (tail_part (lim := lim) (wb := true) (wp := true) (Or.inr HV.out) hr k1 k2)
                          obtain ⟨ll, hll⟩ : ∃ ll : Nat, mid - a = ll := ⟨_, rfl⟩
                          obtain ⟨rl, hrl⟩ : ∃ rl : Nat, b - mid = rl := ⟨_, rfl⟩
                          have hll1 : (mid : Int) - (a : Int) = (ll : Int) := by omega
                          have hrl1 : (b : Int) - (mid : Int) = (rl : Int) := by omega
                          clear hr
                          by_cases hlr : mid - a < b - mid
                          · have g9 : (ll : Int) < (rl : Int) := by omega
                            go_wp2_with (first
                              | (go_at_call 98; (with_reducible refine (HCP.out _ K1.out.inv).mono ?_); rintro e w8 ⟨rfl, h8, h10⟩; have h9 := K1.out.below HS.out h10; have C1 := Lib.hid h9; clear h10; have c0 := h9.box.cell0; have c1 := h9.box.cell1; clear h8 h9)
                              | (go_at_call 99; (with_reducible refine (HRR.out _ C1.out.inv).mono ?_); intro e w8 h8; obtain ⟨rfl, h9⟩ := C1.out.call h8; have R1 := Lib.hid h9; have c0 := h9.box.cell0; have c1 := h9.box.cell1; clear h8 h9)
                              | (go_at_call 100; (with_reducible refine (HPI.out _ R1.out.inv).mono ?_); intro e w8 h8; obtain ⟨rfl, h9⟩ := R1.out.call h8; have P1 := Lib.hid h9; have c0 := h9.box.cell0; have c1 := h9.box.cell1; clear h8 h9)
                              | (go_at_fn g; refine (HLS.out _ P1.out).mono ?_; rintro e w8 ⟨rfl, h9⟩; have L1 := Lib.hid h9; have h8 := trivial; have c0 := h9.box.cell0; have c1 := h9.box.cell1; clear h8 h9)
                              | (go_at_call 102; (with_reducible refine (HPT.out _ L1.out.inv).mono ?_); intro e w8 h8; obtain ⟨rfl, h9⟩ := L1.out.call h8; have T1 := Lib.hid h9; have c0 := h9.box.cell0; have c1 := h9.box.cell1; clear h8 h9)
                              | (go_at_call 54; (with_reducible refine (IH.out a mid lim d4 _ T1.out.inv (by omega) (by omega) (by omega) (by omega)).mono ?_); intro e w8 h8; obtain ⟨rfl, h9⟩ := T1.out.call h8; have Q1 := Lib.hid h9; have c0 := h9.box.cell0; have c1 := h9.box.cell1; clear h8 h9))
                            go_roundw
                            case rel => exact ⟨mid + 1, b, lim, _, ap, _, by go_num, rfl, rfl, congrArg Value.bool (show decide (q8 ≤ ll) = decide (mid - a ≥ (b - a) / 8) from decide_eq_decide.2 (by omega)), rfl, by omega, by omega, by omega, Q1.out, by rw [← HTL.out, HTT.out, if_pos hlr], by omega⟩
                            case measure => simp [intOf]; omega
                          · have g9 : ¬ (ll : Int) < (rl : Int) := by omega
                            have IHR := Lib.hid (fun w h => IH.out (mid + 1) b lim d4 w h (by omega) (by omega) hbn (by omega))
                            rw [show ((mid + 1 : Nat) : Int) = (mid : Int) + 1 by omega] at IHR
                            go_wp2_with (first
                              | (go_at_call 98; (with_reducible refine (HCP.out _ K1.out.inv).mono ?_); rintro e w8 ⟨rfl, h8, h10⟩; have h9 := K1.out.below HS.out h10; have C1 := Lib.hid h9; clear h10; have c0 := h9.box.cell0; have c1 := h9.box.cell1; clear h8 h9)
                              | (go_at_call 99; (with_reducible refine (HRR.out _ C1.out.inv).mono ?_); intro e w8 h8; obtain ⟨rfl, h9⟩ := C1.out.call h8; have R1 := Lib.hid h9; have c0 := h9.box.cell0; have c1 := h9.box.cell1; clear h8 h9)
                              | (go_at_call 100; (with_reducible refine (HPI.out _ R1.out.inv).mono ?_); intro e w8 h8; obtain ⟨rfl, h9⟩ := R1.out.call h8; have P1 := Lib.hid h9; have c0 := h9.box.cell0; have c1 := h9.box.cell1; clear h8 h9)
                              | (go_at_fn g; refine (HLS.out _ P1.out).mono ?_; rintro e w8 ⟨rfl, h9⟩; have L1 := Lib.hid h9; have h8 := trivial; have c0 := h9.box.cell0; have c1 := h9.box.cell1; clear h8 h9)
                              | (go_at_call 102; (with_reducible refine (HPT.out _ L1.out.inv).mono ?_); intro e w8 h8; obtain ⟨rfl, h9⟩ := L1.out.call h8; have T1 := Lib.hid h9; have c0 := h9.box.cell0; have c1 := h9.box.cell1; clear h8 h9)
                              | (go_at_call 54; (with_reducible refine (IHR.out _ T1.out.inv).mono ?_); intro e w8 h8; obtain ⟨rfl, h9⟩ := T1.out.call h8; have Q1 := Lib.hid h9; have c0 := h9.box.cell0; have c1 := h9.box.cell1; clear h8 h9))
                            go_roundw
                            case rel => exact ⟨a, mid, lim, _, ap, _, rfl, rfl, rfl, congrArg Value.bool (show decide (q8 ≤ rl) = decide (b - mid ≥ (b - a) / 8) from decide_eq_decide.2 (by omega)), rfl, by omega, by omega, by omega, Q1.out, by rw [← HTL.out, HTT.out, if_neg hlr], by omega⟩
                            case measure => simp [intOf]; omega
                      · have ga0 : ¬ (0 : Int) < (a : Int) := by omega
                        obtain ⟨r, hr⟩ : ∃ r, partition lt d3 a b p = r := ⟨_, rfl⟩
                        obtain ⟨k1, k2, _⟩ := partition_holds lt HW.out d3 a b p hp1 hp2 (by rw [HDS.out]; exact hbn)
                        have HPT := Lib.hid (fun w h => partit_any HS.out a b p d3 w h hp1 hp2 hbn)
                        rw [hr] at k1 k2 HPT
                        obtain ⟨mid, ap, d4⟩ := r
                        dsimp only at k1 k2 HPT
                        have HTT := Lib.hid (tail_part (lim := lim) (wb := true) (wp := true) (Or.inl ha0) hr k1 k2)
                        obtain ⟨ll, hll⟩ : ∃ ll : Nat, mid - a = ll := ⟨_, rfl⟩
                        obtain ⟨rl, hrl⟩ : ∃ rl : Nat, b - mid = rl := ⟨_, rfl⟩
                        have hll1 : (mid : Int) - (a : Int) = (ll : Int) := by omega
                        have hrl1 : (b : Int) - (mid : Int) = (rl : Int) := by omega
                        clear hr
                        by_cases hlr : mid - a < b - mid
                        · have g9 : (ll : Int) < (rl : Int) := by omega
                          go_wp2_with (first
                            | (go_at_call 98; (with_reducible refine (HCP.out _ K1.out.inv).mono ?_); rintro e w8 ⟨rfl, h8, h10⟩; have h9 := K1.out.below HS.out h10; have C1 := Lib.hid h9; clear h10; have c0 := h9.box.cell0; have c1 := h9.box.cell1; clear h8 h9)
                            | (go_at_call 99; (with_reducible refine (HRR.out _ C1.out.inv).mono ?_); intro e w8 h8; obtain ⟨rfl, h9⟩ := C1.out.call h8; have R1 := Lib.hid h9; have c0 := h9.box.cell0; have c1 := h9.box.cell1; clear h8 h9)
                            | (go_at_call 100; (with_reducible refine (HPI.out _ R1.out.inv).mono ?_); intro e w8 h8; obtain ⟨rfl, h9⟩ := R1.out.call h8; have P1 := Lib.hid h9; have c0 := h9.box.cell0; have c1 := h9.box.cell1; clear h8 h9)
                            | (go_at_call 102; (with_reducible refine (HPT.out _ P1.out.inv).mono ?_); intro e w8 h8; obtain ⟨rfl, h9⟩ := P1.out.call h8; have T1 := Lib.hid h9; have c0 := h9.box.cell0; have c1 := h9.box.cell1; clear h8 h9)
                            | (go_at_call 54; (with_reducible refine (IH.out a mid lim d4 _ T1.out.inv (by omega) (by omega) (by omega) (by omega)).mono ?_); intro e w8 h8; obtain ⟨rfl, h9⟩ := T1.out.call h8; have Q1 := Lib.hid h9; have c0 := h9.box.cell0; have c1 := h9.box.cell1; clear h8 h9))
                          go_roundw
                          case rel => exact ⟨mid + 1, b, lim, _, ap, _, by go_num, rfl, rfl, congrArg Value.bool (show decide (q8 ≤ ll) = decide (mid - a ≥ (b - a) / 8) from decide_eq_decide.2 (by omega)), rfl, by omega, by omega, by omega, Q1.out, by rw [← HTL.out, HTT.out, if_pos hlr], by omega⟩
                          case measure => simp [intOf]; omega
                        · have g9 : ¬ (ll : Int) < (rl : Int) := by omega
                          have IHR := Lib.hid (fun w h => IH.out (mid + 1) b lim d4 w h (by omega) (by omega) hbn (by omega))
                          rw [show ((mid + 1 : Nat) : Int) = (mid : Int) + 1 by omega] at IHR
                          go_wp2_with (first
                            | (go_at_call 98; (with_reducible refine (HCP.out _ K1.out.inv).mono ?_); rintro e w8 ⟨rfl, h8, h10⟩; have h9 := K1.out.below HS.out h10; have C1 := Lib.hid h9; clear h10; have c0 := h9.box.cell0; have c1 := h9.box.cell1; clear h8 h9)
                            | (go_at_call 99; (with_reducible refine (HRR.out _ C1.out.inv).mono ?_); intro e w8 h8; obtain ⟨rfl, h9⟩ := C1.out.call h8; have R1 := Lib.hid h9; have c0 := h9.box.cell0; have c1 := h9.box.cell1; clear h8 h9)
                            | (go_at_call 100; (with_reducible refine (HPI.out _ R1.out.inv).mono ?_); intro e w8 h8; obtain ⟨rfl, h9⟩ := R1.out.call h8; have P1 := Lib.hid h9; have c0 := h9.box.cell0; have c1 := h9.box.cell1; clear h8 h9)
                            | (go_at_call 102; (with_reducible refine (HPT.out _ P1.out.inv).mono ?_); intro e w8 h8; obtain ⟨rfl, h9⟩ := P1.out.call h8; have T1 := Lib.hid h9; have c0 := h9.box.cell0; have c1 := h9.box.cell1; clear h8 h9)
                            | (go_at_call 54; (with_reducible refine (IHR.out _ T1.out.inv).mono ?_); intro e w8 h8; obtain ⟨rfl, h9⟩ := T1.out.call h8; have Q1 := Lib.hid h9; have c0 := h9.box.cell0; have c1 := h9.box.cell1; clear h8 h9))
                          go_roundw
                          case rel => exact ⟨a, mid, lim, _, ap, _, rfl, rfl, rfl, congrArg Value.bool (show decide (q8 ≤ rl) = decide (b - mid ≥ (b - a) / 8) from decide_eq_decide.2 (by omega)), rfl, by omega, by omega, by omega, Q1.out, by rw [← HTL.out, HTT.out, if_neg hlr], by omega⟩
                          case measure => simp [intOf]; omega
                  · go_wp2_with (first
                      | (go_at_call 98; (with_reducible refine (HCP.out _ K1.out.inv).mono ?_); rintro e w8 ⟨rfl, h8, h10⟩; have h9 := K1.out.below HS.out h10; have C1 := Lib.hid h9; clear h10; have c0 := h9.box.cell0; have c1 := h9.box.cell1; clear h8 h9)
                      | (go_at_call 99; (with_reducible refine (HRR.out _ C1.out.inv).mono ?_); intro e w8 h8; obtain ⟨rfl, h9⟩ := C1.out.call h8; have R1 := Lib.hid h9; have c0 := h9.box.cell0; have c1 := h9.box.cell1; clear h8 h9)
                      | (go_at_call 100; (with_reducible refine (HPI.out _ R1.out.inv).mono ?_); intro e w8 h8; exact absurd (HS.out.size _ _ h8.2.1) hd3))
                · have HTL : Hid (d3 = pdq lt d a0 b0 lim0 true true) := Lib.hid HTL.out
                  go_wp2_with (first
                    | (go_at_call 98; (with_reducible refine (HCP.out _ K1.out.inv).mono ?_); rintro e w8 ⟨rfl, h8, h10⟩; have h9 := K1.out.below HS.out h10; have C1 := Lib.hid h9; clear h10; have c0 := h9.box.cell0; have c1 := h9.box.cell1; clear h8 h9)
                    | (go_at_call 99; (with_reducible refine (HRR.out _ C1.out.inv).mono ?_); intro e w8 h8; obtain ⟨rfl, h9⟩ := C1.out.call h8; have R1 := Lib.hid h9; have c0 := h9.box.cell0; have c1 := h9.box.cell1; clear h8 h9)
                    | (go_at_call 100; (with_reducible refine (HPI.out _ R1.out.inv).mono ?_); intro e w8 h8; obtain ⟨rfl, h9⟩ := R1.out.call h8; have P1 := Lib.hid h9; have c0 := h9.box.cell0; have c1 := h9.box.cell1; clear h8 h9))
                  go_end0
                  have := P1.out.done (.tuple #[])
                  rwa [HTL.out] at this
end

end Go.Proofs.YtglkmpglpddfdaaGreatDoor
