import Derived.Test.YtglkmpglpddfdaaGreatDoorJ32
/- Of a claim's texts, joined: Sre. No statement but in the last. -/
namespace Go.Proofs.YtglkmpglpddfdaaGreatDoor
open Go.RowKit Go.Sort
set_option linter.unusedVariables false

section
variable {α : Type} [Inhabited α] {lt : α → α → Bool} {I : Array α → World → Prop} {blk n low g sf : Nat} {lb sb : Array Value}
theorem scanUp_more {p : α → Bool} {d : Array α} {i j : Nat} (h : i ≤ j) (hp : p d[i]! = true) : scanUp p d j i = scanUp p d j (i + 1) := by
  rw [scanUp.eq_def, if_pos (by simp [h, hp])]
theorem scanUp_end {p : α → Bool} {d : Array α} {i j : Nat} (h : ¬ i ≤ j ∨ p d[i]! = false) : scanUp p d j i = i := by
  rw [scanUp.eq_def, if_neg (by rcases h with h | h <;> simp [h])]
theorem scanDown_more {p : α → Bool} {d : Array α} {i j : Nat} (h0 : 1 ≤ i) (h : i ≤ j) (hp : p d[j]! = true) : scanDown p d i j = scanDown p d i (j - 1) := by
  obtain ⟨k, rfl⟩ : ∃ k, j = k + 1 := ⟨j - 1, by omega⟩
  simp only [Nat.add_sub_cancel]
  rw [scanDown, if_pos (by simp [h, hp])]
theorem scanDown_end {p : α → Bool} {d : Array α} {i j : Nat} (h : ¬ i ≤ j ∨ p d[j]! = false) : scanDown p d i j = j := by
  cases j with
  | zero => rfl
  | succ k => rw [scanDown, if_neg (by rcases h with h | h <;> simp [h])]
theorem partEq_more {a i j i2 j2 : Nat} {d : Array α} (h1 : scanUp (fun x => !lt d[a]! x) d j i = i2) (h2 : scanDown (fun x => lt d[a]! x) d i2 j = j2) (hi : i ≤ i2) (hj : j2 ≤ j) (h : i2 ≤ j2) : partEqLoop lt a i j d = partEqLoop lt a (i2 + 1) (j2 - 1) (swp d i2 j2) := by
  conv => lhs; rw [partEqLoop.eq_def]
  simp only [h1, h2]
  rw [if_neg (by omega), dif_pos (by omega)]
theorem partEq_end {a i j i2 j2 : Nat} {d : Array α} (h1 : scanUp (fun x => !lt d[a]! x) d j i = i2) (h2 : scanDown (fun x => lt d[a]! x) d i2 j = j2) (h : ¬ i2 ≤ j2) : partEqLoop lt a i j d = (i2, d) := by
  rw [partEqLoop.eq_def]
  simp only [h1, h2]
  rw [if_pos (by omega)]
theorem part_more {a i j i2 j2 : Nat} {d : Array α} (h1 : scanUp (fun x => lt x d[a]!) d j i = i2) (h2 : scanDown (fun x => !lt x d[a]!) d i2 j = j2) (hi : i ≤ i2) (hj : j2 ≤ j) (h : i2 ≤ j2) : partLoop lt a i j d = partLoop lt a (i2 + 1) (j2 - 1) (swp d i2 j2) := by
  conv => lhs; rw [partLoop.eq_def]
  simp only [h1, h2]
  rw [if_neg (by omega), dif_pos (by omega)]
theorem part_end {a i j i2 j2 : Nat} {d : Array α} (h1 : scanUp (fun x => lt x d[a]!) d j i = i2) (h2 : scanDown (fun x => !lt x d[a]!) d i2 j = j2) (h : ¬ i2 ≤ j2) : partLoop lt a i j d = (j2, d) := by
  rw [partLoop.eq_def]
  simp only [h1, h2]
  rw [if_pos (by omega)]
set_option maxRecDepth 100000 in
set_option maxHeartbeats 8000000 in
theorem partEq_any (S : Srt lt I blk n low g sf lb sb) (a b pivot : Nat) (d : Array α) (W : World) (hI : I d W) (hap : a ≤ pivot) (hpb : pivot < b) (hb : b ≤ n) :
    Calls Tryz.prog 101 #[.agg #[.func (.func g) #[] lb, .func (.func sf) #[] sb], .int .i64 (a : Int), .int .i64 (b : Int), .int .i64 (pivot : Int)] W (fun e w' => SrtEnd I blk (.int .i64 ((partitionEqual lt d a b pivot).1 : Int)) (partitionEqual lt d a b pivot).2 W e w' ∧ a < (partitionEqual lt d a b pivot).1 ∧ (partitionEqual lt d a b pivot).1 ≤ b) := by
  have HS := Lib.hid S
  have hmost := S.most
  have eg := S.enters
  have H0 := Lib.hid (SS.start S hI)
  obtain ⟨jb, hjb⟩ : ∃ jb, b - 1 = jb := ⟨_, rfl⟩
  have hjb1 : (b : Int) - 1 = (jb : Int) := by omega
  have hjb2 : jb + 1 = b := by omega
  have HP : Hid (partitionEqual lt d a b pivot = partEqLoop lt a (a + 1) jb (swp d a pivot)) := Lib.hid (by unfold partitionEqual; rw [hjb])
  clear S hI hjb
  go_enter Tryz.func101, Tryz.ntmps101
  go_wp2
  obtain ⟨w6, hs, h6⟩ := H0.out.swap HS.out a pivot (by omega) (by omega)
  have M6 := Lib.hid h6
  have c0 := h6.box.cell0
  have c1 := h6.box.cell1
  clear h6
  rw [hs, Oper.upon_value]
  go_wp2
  go_loopw [9, 10] (fun vi vj wr => ∃ (i0 j0 : Nat) (dk : Array α), vi = .int .i64 (i0 : Int) ∧ vj = .int .i64 (j0 : Int) ∧ a < i0 ∧ i0 ≤ j0 + 1 ∧ j0 < b ∧ SS I blk g sf lb sb W dk wr ∧ partEqLoop lt a i0 j0 dk = partitionEqual lt d a b pivot) (fun _ vj _ => (intOf vj).toNat)
  case atStart => exact ⟨a + 1, jb, _, by go_num, rfl, by omega, by omega, by omega, M6.out, HP.out.symm⟩
  case round =>
    obtain ⟨i0, j0, dk, rfl, rfl, ha0, hij0, hjb0, h1, h4⟩ := hrel
    have K1 := Lib.hid h1
    have K4 := Lib.hid h4
    clear h1 h4
    go_wp2
    go_loopw [9] (fun vi wr => ∃ i : Nat, vi = .int .i64 (i : Int) ∧ i0 ≤ i ∧ i ≤ j0 + 1 ∧ SS I blk g sf lb sb W dk wr ∧ scanUp (fun x => !lt dk[a]! x) dk j0 i = scanUp (fun x => !lt dk[a]! x) dk j0 (i0)) (fun vi _ => j0 + 2 - (intOf vi).toNat)
    case atStart => exact ⟨i0, by go_num, Nat.le_refl _, by omega, K1.out, rfl⟩
    case round =>
      obtain ⟨i, rfl, hi0, hi1, h1, h4⟩ := hrel
      have U1i := Lib.hid h1
      have U4i := Lib.hid h4
      have c0 := h1.box.cell0
      have c1 := h1.box.cell1
      clear h1 h4
      by_cases hij : i ≤ j0
      · have gi1 : (i : Int) ≤ (j0 : Int) := by omega
        have hl := U1i.out.less HS.out a i (by omega) (by omega)
        cases hv : lt dk[a]! dk[i]!
        · rw [hv] at hl
          have HL := Lib.hid hl
          clear hl c0 c1
          have c0 := U1i.out.box.cell0
          have HU := Lib.hid (scanUp_more (p := (fun x => !lt dk[a]! x)) (d := dk) hij (by simp [hv]))
          clear hv
          go_wp2_with (go_at_fn g; refine HL.out.mono ?_; rintro e w5 ⟨rfl, h5⟩; have V1 := Lib.hid h5; clear h5)
          go_roundw
          case rel => exact ⟨i + 1, by go_num, by omega, by omega, V1.out, by rw [← U4i.out, HU.out]⟩
          case measure => simp [intOf]; omega
        · rw [hv] at hl
          have HL := Lib.hid hl
          clear hl c0 c1
          have c0 := U1i.out.box.cell0
          have HU := Lib.hid (scanUp_end (p := (fun x => !lt dk[a]! x)) (d := dk) (i := i) (j := j0) (Or.inr (by simp [hv])))
          have HF := Lib.hid hv
          have HUi : Hid (scanUp (fun x => !lt dk[a]! x) dk j0 (i0) = i) := Lib.hid (by rw [← U4i.out, HU.out])
          clear hv
          go_wp2_with (go_at_fn g; refine HL.out.mono ?_; rintro e w5 ⟨rfl, h5⟩; have Vi := Lib.hid h5; have c0 := h5.box.cell0; have c1 := h5.box.cell1; clear h5)
          go_loopw [10] (fun vj wr => ∃ j : Nat, vj = .int .i64 (j : Int) ∧ j ≤ j0 ∧ (i ≤ j + 1 ∨ j = j0) ∧ SS I blk g sf lb sb W dk wr ∧ scanDown (fun x => lt dk[a]! x) dk i j = scanDown (fun x => lt dk[a]! x) dk i j0) (fun vj _ => (intOf vj).toNat)
          case atStart => exact ⟨j0, rfl, Nat.le_refl _, Or.inr rfl, Vi.out, rfl⟩
          case round =>
            obtain ⟨j, rfl, hj0, hj1, h1, h4⟩ := hrel
            have U1j := Lib.hid h1
            have U4j := Lib.hid h4
            have c0 := h1.box.cell0
            have c1 := h1.box.cell1
            clear h1 h4
            by_cases hji : i ≤ j
            · have gj1 : (i : Int) ≤ (j : Int) := by omega
              have hl := U1j.out.less HS.out a j (by omega) (by omega)
              cases hv : lt dk[a]! dk[j]!
              · rw [hv] at hl
                have HL := Lib.hid hl
                clear hl c0 c1
                have c0 := U1j.out.box.cell0
                have HU := Lib.hid (scanDown_end (p := (fun x => lt dk[a]! x)) (d := dk) (i := i) (j := j) (Or.inr (by simp [hv])))
                have HUj : Hid (scanDown (fun x => lt dk[a]! x) dk i j0 = j) := Lib.hid (by rw [← U4j.out, HU.out])
                have HW := Lib.hid hv
                clear hv
                have hgt : ¬ (j : Int) < (i : Int) := by omega
                go_wp2_with (go_at_fn g; refine HL.out.mono ?_; rintro e w5 ⟨rfl, h5⟩; have Vj := Lib.hid h5; have c0 := h5.box.cell0; have c1 := h5.box.cell1; clear h5)
                have hne : i ≠ j := by
                  rintro rfl
                  have h1 := HF.out
                  rw [HW.out] at h1
                  cases h1
                obtain ⟨w6, hs, h6⟩ := Vj.out.swap HS.out i j (by omega) (by omega)
                have M6 := Lib.hid h6
                have c0 := h6.box.cell0
                have c1 := h6.box.cell1
                clear h6
                rw [hs, Oper.upon_value]
                have HE := Lib.hid (partEq_more HUi.out HUj.out (by omega) hj0 hji)
                go_wp2
                go_roundw
                case rel => exact ⟨i + 1, j - 1, _, by go_num, by go_num, by omega, by omega, by omega, M6.out, by rw [← K4.out, HE.out]⟩
                case measure => simp [intOf]; omega
              · rw [hv] at hl
                have HL := Lib.hid hl
                clear hl c0 c1
                have c0 := U1j.out.box.cell0
                have HU := Lib.hid (scanDown_more (p := (fun x => lt dk[a]! x)) (d := dk) (i := i) (by omega) hji (by simp [hv]))
                clear hv
                go_wp2_with (go_at_fn g; refine HL.out.mono ?_; rintro e w5 ⟨rfl, h5⟩; have V1 := Lib.hid h5; clear h5)
                go_roundw
                case rel => exact ⟨j - 1, by go_num, by omega, by omega, V1.out, by rw [← U4j.out, HU.out]⟩
                case measure => simp [intOf]; omega
            · have gj1 : ¬ (i : Int) ≤ (j : Int) := by omega
              have HUj : Hid (scanDown (fun x => lt dk[a]! x) dk i j0 = j) := Lib.hid (by rw [← U4j.out]; exact scanDown_end (Or.inl hji))
              have hgt : (j : Int) < (i : Int) := by omega
              go_wp2
              have HE := Lib.hid (partEq_end HUi.out HUj.out (by omega))
              go_ret
              have := U1j.out.done (.int .i64 (i : Int))
              have hr : partitionEqual lt d a b pivot = (i, dk) := by rw [← K4.out, HE.out]
              rw [hr]
              exact ⟨this, by show a < i; omega, by show i ≤ b; omega⟩
      · have gi1 : ¬ (i : Int) ≤ (j0 : Int) := by omega
        have HUi : Hid (scanUp (fun x => !lt dk[a]! x) dk j0 (i0) = i) := Lib.hid (by rw [← U4i.out]; exact scanUp_end (Or.inl hij))
        go_wp2
        have HUj : Hid (scanDown (fun x => lt dk[a]! x) dk i j0 = j0) := Lib.hid (scanDown_end (Or.inl hij))
        have hgt : (j0 : Int) < (i : Int) := by omega
        have hge : ¬ (i : Int) ≤ (j0 : Int) := by omega
        go_loopw [10] (fun vj wr => vj = .int .i64 (j0 : Int) ∧ SS I blk g sf lb sb W dk wr) (fun vj _ => 0)
        case atStart => exact ⟨rfl, U1i.out⟩
        case round =>
          obtain ⟨rfl, h1⟩ := hrel
          have U1j := Lib.hid h1
          have c0 := h1.box.cell0
          have c1 := h1.box.cell1
          clear h1
          go_wp2
          have HE := Lib.hid (partEq_end HUi.out HUj.out (by omega))
          go_ret
          have := U1j.out.done (.int .i64 (i : Int))
          have hr : partitionEqual lt d a b pivot = (i, dk) := by rw [← K4.out, HE.out]
          rw [hr]
          exact ⟨this, by show a < i; omega, by show i ≤ b; omega⟩
def partTail (lt : α → α → Bool) (a jb : Nat) (d1 : Array α) : Nat × Bool × Array α :=
  if scanUp (fun x => lt x d1[a]!) d1 jb (a + 1) > scanDown (fun x => !lt x d1[a]!) d1 (scanUp (fun x => lt x d1[a]!) d1 jb (a + 1)) jb then (scanDown (fun x => !lt x d1[a]!) d1 (scanUp (fun x => lt x d1[a]!) d1 jb (a + 1)) jb, true, swp d1 (scanDown (fun x => !lt x d1[a]!) d1 (scanUp (fun x => lt x d1[a]!) d1 jb (a + 1)) jb) a) else
    ((partLoop lt a (scanUp (fun x => lt x d1[a]!) d1 jb (a + 1) + 1) (scanDown (fun x => !lt x d1[a]!) d1 (scanUp (fun x => lt x d1[a]!) d1 jb (a + 1)) jb - 1) (swp d1 (scanUp (fun x => lt x d1[a]!) d1 jb (a + 1)) (scanDown (fun x => !lt x d1[a]!) d1 (scanUp (fun x => lt x d1[a]!) d1 jb (a + 1)) jb))).1, false,
      swp (partLoop lt a (scanUp (fun x => lt x d1[a]!) d1 jb (a + 1) + 1) (scanDown (fun x => !lt x d1[a]!) d1 (scanUp (fun x => lt x d1[a]!) d1 jb (a + 1)) jb - 1) (swp d1 (scanUp (fun x => lt x d1[a]!) d1 jb (a + 1)) (scanDown (fun x => !lt x d1[a]!) d1 (scanUp (fun x => lt x d1[a]!) d1 jb (a + 1)) jb))).2
        (partLoop lt a (scanUp (fun x => lt x d1[a]!) d1 jb (a + 1) + 1) (scanDown (fun x => !lt x d1[a]!) d1 (scanUp (fun x => lt x d1[a]!) d1 jb (a + 1)) jb - 1) (swp d1 (scanUp (fun x => lt x d1[a]!) d1 jb (a + 1)) (scanDown (fun x => !lt x d1[a]!) d1 (scanUp (fun x => lt x d1[a]!) d1 jb (a + 1)) jb))).1 a)
set_option maxRecDepth 100000 in
set_option maxHeartbeats 16000000 in
theorem partit_any (S : Srt lt I blk n low g sf lb sb) (a b pivot : Nat) (d : Array α) (W : World) (hI : I d W) (hap : a ≤ pivot) (hpb : pivot < b) (hb : b ≤ n) :
    Calls Tryz.prog 102 #[.agg #[.func (.func g) #[] lb, .func (.func sf) #[] sb], .int .i64 (a : Int), .int .i64 (b : Int), .int .i64 (pivot : Int)] W (SrtEnd I blk (.tuple #[.int .i64 ((partition lt d a b pivot).1 : Int), .bool (partition lt d a b pivot).2.1]) (partition lt d a b pivot).2.2 W) := by
  have HS := Lib.hid S
  have hmost := S.most
  have eg := S.enters
  have H0 := Lib.hid (SS.start S hI)
  obtain ⟨jb, hjb⟩ : ∃ jb, b - 1 = jb := ⟨_, rfl⟩
  have hjb1 : (b : Int) - 1 = (jb : Int) := by omega
  have hjb2 : jb + 1 = b := by omega
  obtain ⟨d1, hd1⟩ : ∃ d1, swp d a pivot = d1 := ⟨_, rfl⟩
  have HP : Hid (partition lt d a b pivot = partTail lt a jb d1) := Lib.hid (by
    unfold partition partTail
    simp only [hjb, hd1])
  have HD := Lib.hid hd1
  clear S hI hjb hd1
  go_enter Tryz.func102, Tryz.ntmps102
  go_wp2
  obtain ⟨w6, hs, h6⟩ := H0.out.swap HS.out a pivot (by omega) (by omega)
  have M6 := Lib.hid h6
  have c0 := h6.box.cell0
  have c1 := h6.box.cell1
  clear h6
  rw [hs, Oper.upon_value]
  rw [HD.out] at M6
  go_wp2
  go_loopw [10] (fun vi wr => ∃ i : Nat, vi = .int .i64 (i : Int) ∧ a + 1 ≤ i ∧ i ≤ jb + 2 ∧ SS I blk g sf lb sb W d1 wr ∧ scanUp (fun x => lt x d1[a]!) d1 jb i = scanUp (fun x => lt x d1[a]!) d1 jb (a + 1)) (fun vi _ => jb + 2 - (intOf vi).toNat)
  case atStart => exact ⟨a + 1, by go_num, Nat.le_refl _, by omega, M6.out, rfl⟩
  case round =>
    obtain ⟨i, rfl, hi0, hi1, h1, h4⟩ := hrel
    have U1i := Lib.hid h1
    have U4i := Lib.hid h4
    have c0 := h1.box.cell0
    have c1 := h1.box.cell1
    clear h1 h4
    by_cases hij : i ≤ jb
    · have gi1 : (i : Int) ≤ (jb : Int) := by omega
      have hl := U1i.out.less HS.out i a (by omega) (by omega)
      cases hv : lt d1[i]! d1[a]!
      · rw [hv] at hl
        have HL := Lib.hid hl
        clear hl c0 c1
        have c0 := U1i.out.box.cell0
        have HU := Lib.hid (scanUp_end (p := (fun x => lt x d1[a]!)) (d := d1) (i := i) (j := jb) (Or.inr (by simp [hv])))
        have HF := Lib.hid hv
        have HUi : Hid (scanUp (fun x => lt x d1[a]!) d1 jb (a + 1) = i) := Lib.hid (by rw [← U4i.out, HU.out])
        clear hv
        go_wp2_with (go_at_fn g; refine HL.out.mono ?_; rintro e w5 ⟨rfl, h5⟩; have Vi := Lib.hid h5; have c0 := h5.box.cell0; have c1 := h5.box.cell1; clear h5)
        go_loopw [11] (fun vj wr => ∃ j : Nat, vj = .int .i64 (j : Int) ∧ j ≤ jb ∧ (i ≤ j + 1 ∨ j = jb) ∧ SS I blk g sf lb sb W d1 wr ∧ scanDown (fun x => !lt x d1[a]!) d1 i j = scanDown (fun x => !lt x d1[a]!) d1 i jb) (fun vj _ => (intOf vj).toNat)
        case atStart => exact ⟨jb, rfl, Nat.le_refl _, Or.inr rfl, Vi.out, rfl⟩
        case round =>
          obtain ⟨j, rfl, hj0, hj1, h1, h4⟩ := hrel
          have U1j := Lib.hid h1
          have U4j := Lib.hid h4
          have c0 := h1.box.cell0
          have c1 := h1.box.cell1
          clear h1 h4
          by_cases hji : i ≤ j
          · have gj1 : (i : Int) ≤ (j : Int) := by omega
            have hl := U1j.out.less HS.out j a (by omega) (by omega)
            cases hv : lt d1[j]! d1[a]!
            · rw [hv] at hl
              have HL := Lib.hid hl
              clear hl c0 c1
              have c0 := U1j.out.box.cell0
              have HU := Lib.hid (scanDown_more (p := (fun x => !lt x d1[a]!)) (d := d1) (i := i) (by omega) hji (by simp [hv]))
              clear hv
              go_wp2_with (go_at_fn g; refine HL.out.mono ?_; rintro e w5 ⟨rfl, h5⟩; have V1 := Lib.hid h5; clear h5)
              go_roundw
              case rel => exact ⟨j - 1, by go_num, by omega, by omega, V1.out, by rw [← U4j.out, HU.out]⟩
              case measure => simp [intOf]; omega
            · rw [hv] at hl
              have HL := Lib.hid hl
              clear hl c0 c1
              have c0 := U1j.out.box.cell0
              have HU := Lib.hid (scanDown_end (p := (fun x => !lt x d1[a]!)) (d := d1) (i := i) (j := j) (Or.inr (by simp [hv])))
              have HUj : Hid (scanDown (fun x => !lt x d1[a]!) d1 i jb = j) := Lib.hid (by rw [← U4j.out, HU.out])
              have HW := Lib.hid hv
              clear hv
              have hgt : ¬ (j : Int) < (i : Int) := by omega
              go_wp2_with (go_at_fn g; refine HL.out.mono ?_; rintro e w5 ⟨rfl, h5⟩; have Vj := Lib.hid h5; have c0 := h5.box.cell0; have c1 := h5.box.cell1; clear h5)
              obtain ⟨w6, hs, h6⟩ := Vj.out.swap HS.out i j (by omega) (by omega)
              have M6 := Lib.hid h6
              have c0 := h6.box.cell0
              have c1 := h6.box.cell1
              clear h6
              rw [hs, Oper.upon_value]
              have HPT : Hid (partition lt d a b pivot = ((partLoop lt a (i + 1) (j - 1) (swp d1 i j)).1, false, swp (partLoop lt a (i + 1) (j - 1) (swp d1 i j)).2 (partLoop lt a (i + 1) (j - 1) (swp d1 i j)).1 a)) := Lib.hid (by
                rw [HP.out]
                unfold partTail
                simp only [HUi.out, HUj.out]
                rw [if_neg (by omega)])
              go_wp2
              go_loopw [10, 11] (fun vi vj wr => ∃ (i0 j0 : Nat) (dk : Array α), vi = .int .i64 (i0 : Int) ∧ vj = .int .i64 (j0 : Int) ∧ a < i0 ∧ i0 ≤ j0 + 2 ∧ j0 < b ∧ SS I blk g sf lb sb W dk wr ∧ partLoop lt a i0 j0 dk = partLoop lt a (i + 1) (j - 1) (swp d1 i j)) (fun _ vj _ => (intOf vj).toNat)
              case atStart => exact ⟨i + 1, j - 1, _, by go_num, by go_num, by omega, by omega, by omega, M6.out, rfl⟩
              case round =>
                obtain ⟨i0, j0, dk, rfl, rfl, ha0, hij0, hjb0, h1, h4⟩ := hrel
                have K1 := Lib.hid h1
                have K4 := Lib.hid h4
                clear h1 h4
                go_wp2
                go_loopw [10] (fun vi wr => ∃ i2 : Nat, vi = .int .i64 (i2 : Int) ∧ i0 ≤ i2 ∧ i2 ≤ j0 + 2 ∧ SS I blk g sf lb sb W dk wr ∧ scanUp (fun x => lt x dk[a]!) dk j0 i2 = scanUp (fun x => lt x dk[a]!) dk j0 (i0)) (fun vi _ => j0 + 2 - (intOf vi).toNat)
                case atStart => exact ⟨i0, by go_num, Nat.le_refl _, by omega, K1.out, rfl⟩
                case round =>
                  obtain ⟨i2, rfl, hi20, hi21, h1, h4⟩ := hrel
                  have U1i2 := Lib.hid h1
                  have U4i2 := Lib.hid h4
                  have c0 := h1.box.cell0
                  have c1 := h1.box.cell1
                  clear h1 h4
                  by_cases hi2j : i2 ≤ j0
                  · have gi21 : (i2 : Int) ≤ (j0 : Int) := by omega
                    have hl := U1i2.out.less HS.out i2 a (by omega) (by omega)
                    cases hv : lt dk[i2]! dk[a]!
                    · rw [hv] at hl
                      have HL := Lib.hid hl
                      clear hl c0 c1
                      have c0 := U1i2.out.box.cell0
                      have HU := Lib.hid (scanUp_end (p := (fun x => lt x dk[a]!)) (d := dk) (i := i2) (j := j0) (Or.inr (by simp [hv])))
                      have HF := Lib.hid hv
                      have HUi2 : Hid (scanUp (fun x => lt x dk[a]!) dk j0 (i0) = i2) := Lib.hid (by rw [← U4i2.out, HU.out])
                      clear hv
                      go_wp2_with (go_at_fn g; refine HL.out.mono ?_; rintro e w5 ⟨rfl, h5⟩; have Vi2 := Lib.hid h5; have c0 := h5.box.cell0; have c1 := h5.box.cell1; clear h5)
                      go_loopw [11] (fun vj wr => ∃ j2 : Nat, vj = .int .i64 (j2 : Int) ∧ j2 ≤ j0 ∧ (i2 ≤ j2 + 1 ∨ j2 = j0) ∧ SS I blk g sf lb sb W dk wr ∧ scanDown (fun x => !lt x dk[a]!) dk i2 j2 = scanDown (fun x => !lt x dk[a]!) dk i2 j0) (fun vj _ => (intOf vj).toNat)
                      case atStart => exact ⟨j0, rfl, Nat.le_refl _, Or.inr rfl, Vi2.out, rfl⟩
                      case round =>
                        obtain ⟨j2, rfl, hj20, hj21, h1, h4⟩ := hrel
                        have U1j2 := Lib.hid h1
                        have U4j2 := Lib.hid h4
                        have c0 := h1.box.cell0
                        have c1 := h1.box.cell1
                        clear h1 h4
                        by_cases hj2i : i2 ≤ j2
                        · have gj21 : (i2 : Int) ≤ (j2 : Int) := by omega
                          have hl := U1j2.out.less HS.out j2 a (by omega) (by omega)
                          cases hv : lt dk[j2]! dk[a]!
                          · rw [hv] at hl
                            have HL := Lib.hid hl
                            clear hl c0 c1
                            have c0 := U1j2.out.box.cell0
                            have HU := Lib.hid (scanDown_more (p := (fun x => !lt x dk[a]!)) (d := dk) (i := i2) (by omega) hj2i (by simp [hv]))
                            clear hv
                            go_wp2_with (go_at_fn g; refine HL.out.mono ?_; rintro e w5 ⟨rfl, h5⟩; have V1 := Lib.hid h5; clear h5)
                            go_roundw
                            case rel => exact ⟨j2 - 1, by go_num, by omega, by omega, V1.out, by rw [← U4j2.out, HU.out]⟩
                            case measure => simp [intOf]; omega
                          · rw [hv] at hl
                            have HL := Lib.hid hl
                            clear hl c0 c1
                            have c0 := U1j2.out.box.cell0
                            have HU := Lib.hid (scanDown_end (p := (fun x => !lt x dk[a]!)) (d := dk) (i := i2) (j := j2) (Or.inr (by simp [hv])))
                            have HUj2 : Hid (scanDown (fun x => !lt x dk[a]!) dk i2 j0 = j2) := Lib.hid (by rw [← U4j2.out, HU.out])
                            have HW := Lib.hid hv
                            clear hv
                            have hgt : ¬ (j2 : Int) < (i2 : Int) := by omega
                            go_wp2_with (go_at_fn g; refine HL.out.mono ?_; rintro e w5 ⟨rfl, h5⟩; have Vj2 := Lib.hid h5; have c0 := h5.box.cell0; have c1 := h5.box.cell1; clear h5)
                            obtain ⟨w6, hs, h6⟩ := Vj2.out.swap HS.out i2 j2 (by omega) (by omega)
                            have M6 := Lib.hid h6
                            have c0 := h6.box.cell0
                            have c1 := h6.box.cell1
                            clear h6
                            rw [hs, Oper.upon_value]
                            have HE := Lib.hid (part_more HUi2.out HUj2.out (by omega) hj20 hj2i)
                            go_wp2
                            go_roundw
                            case rel => exact ⟨i2 + 1, j2 - 1, _, by go_num, by go_num, by omega, by omega, by omega, M6.out, by rw [← K4.out, HE.out]⟩
                            case measure => simp [intOf]; omega
                        · have gj21 : ¬ (i2 : Int) ≤ (j2 : Int) := by omega
                          have HUj2 : Hid (scanDown (fun x => !lt x dk[a]!) dk i2 j0 = j2) := Lib.hid (by rw [← U4j2.out]; exact scanDown_end (Or.inl hj2i))
                          have hgt : (j2 : Int) < (i2 : Int) := by omega
                          go_wp2
                          obtain ⟨w6, hs, h6⟩ := U1j2.out.swap HS.out j2 a (by omega) (by omega)
                          have M6 := Lib.hid h6
                          have c0 := h6.box.cell0
                          have c1 := h6.box.cell1
                          clear h6
                          rw [hs, Oper.upon_value]
                          have HE := Lib.hid (part_end HUi2.out HUj2.out (by omega))
                          go_wp2
                          go_ret2
                          have hr : partition lt d a b pivot = (j2, false, swp dk j2 a) := by rw [HPT.out, ← K4.out, HE.out]
                          rw [hr]
                          exact M6.out.done _
                    · rw [hv] at hl
                      have HL := Lib.hid hl
                      clear hl c0 c1
                      have c0 := U1i2.out.box.cell0
                      have HU := Lib.hid (scanUp_more (p := (fun x => lt x dk[a]!)) (d := dk) hi2j (by simp [hv]))
                      clear hv
                      go_wp2_with (go_at_fn g; refine HL.out.mono ?_; rintro e w5 ⟨rfl, h5⟩; have V1 := Lib.hid h5; clear h5)
                      go_roundw
                      case rel => exact ⟨i2 + 1, by go_num, by omega, by omega, V1.out, by rw [← U4i2.out, HU.out]⟩
                      case measure => simp [intOf]; omega
                  · have gi21 : ¬ (i2 : Int) ≤ (j0 : Int) := by omega
                    have HUi2 : Hid (scanUp (fun x => lt x dk[a]!) dk j0 (i0) = i2) := Lib.hid (by rw [← U4i2.out]; exact scanUp_end (Or.inl hi2j))
                    go_wp2
                    have HUj2 : Hid (scanDown (fun x => !lt x dk[a]!) dk i2 j0 = j0) := Lib.hid (scanDown_end (Or.inl hi2j))
                    have hgt : (j0 : Int) < (i2 : Int) := by omega
                    have hge : ¬ (i2 : Int) ≤ (j0 : Int) := by omega
                    go_loopw [11] (fun vj wr => vj = .int .i64 (j0 : Int) ∧ SS I blk g sf lb sb W dk wr) (fun vj _ => 0)
                    case atStart => exact ⟨rfl, U1i2.out⟩
                    case round =>
                      obtain ⟨rfl, h1⟩ := hrel
                      have U1j2 := Lib.hid h1
                      have c0 := h1.box.cell0
                      have c1 := h1.box.cell1
                      clear h1
                      go_wp2
                      obtain ⟨w6, hs, h6⟩ := U1j2.out.swap HS.out j0 a (by omega) (by omega)
                      have M6 := Lib.hid h6
                      have c0 := h6.box.cell0
                      have c1 := h6.box.cell1
                      clear h6
                      rw [hs, Oper.upon_value]
                      have HE := Lib.hid (part_end HUi2.out HUj2.out (by omega))
                      go_wp2
                      go_ret2
                      have hr : partition lt d a b pivot = (j0, false, swp dk j0 a) := by rw [HPT.out, ← K4.out, HE.out]
                      rw [hr]
                      exact M6.out.done _
          · have gj1 : ¬ (i : Int) ≤ (j : Int) := by omega
            have HUj : Hid (scanDown (fun x => !lt x d1[a]!) d1 i jb = j) := Lib.hid (by rw [← U4j.out]; exact scanDown_end (Or.inl hji))
            have hgt : (j : Int) < (i : Int) := by omega
            go_wp2
            obtain ⟨w6, hs, h6⟩ := U1j.out.swap HS.out j a (by omega) (by omega)
            have M6 := Lib.hid h6
            have c0 := h6.box.cell0
            have c1 := h6.box.cell1
            clear h6
            rw [hs, Oper.upon_value]
            go_wp2
            go_ret2
            have hr : partition lt d a b pivot = (j, true, swp d1 j a) := by
              rw [HP.out]
              unfold partTail
              simp only [HUi.out, HUj.out]
              rw [if_pos (by omega)]
            rw [hr]
            exact M6.out.done _
      · rw [hv] at hl
        have HL := Lib.hid hl
        clear hl c0 c1
        have c0 := U1i.out.box.cell0
        have HU := Lib.hid (scanUp_more (p := (fun x => lt x d1[a]!)) (d := d1) hij (by simp [hv]))
        clear hv
        go_wp2_with (go_at_fn g; refine HL.out.mono ?_; rintro e w5 ⟨rfl, h5⟩; have V1 := Lib.hid h5; clear h5)
        go_roundw
        case rel => exact ⟨i + 1, by go_num, by omega, by omega, V1.out, by rw [← U4i.out, HU.out]⟩
        case measure => simp [intOf]; omega
    · have gi1 : ¬ (i : Int) ≤ (jb : Int) := by omega
      have HUi : Hid (scanUp (fun x => lt x d1[a]!) d1 jb (a + 1) = i) := Lib.hid (by rw [← U4i.out]; exact scanUp_end (Or.inl hij))
      go_wp2
      have HUj : Hid (scanDown (fun x => !lt x d1[a]!) d1 i jb = jb) := Lib.hid (scanDown_end (Or.inl hij))
      have hgt : (jb : Int) < (i : Int) := by omega
      have hge : ¬ (i : Int) ≤ (jb : Int) := by omega
      go_loopw [11] (fun vj wr => vj = .int .i64 (jb : Int) ∧ SS I blk g sf lb sb W d1 wr) (fun vj _ => 0)
      case atStart => exact ⟨rfl, U1i.out⟩
      case round =>
        obtain ⟨rfl, h1⟩ := hrel
        have U1j := Lib.hid h1
        have c0 := h1.box.cell0
        have c1 := h1.box.cell1
        clear h1
        go_wp2
        obtain ⟨w6, hs, h6⟩ := U1j.out.swap HS.out jb a (by omega) (by omega)
        have M6 := Lib.hid h6
        have c0 := h6.box.cell0
        have c1 := h6.box.cell1
        clear h6
        rw [hs, Oper.upon_value]
        go_wp2
        go_ret2
        have hr : partition lt d a b pivot = (jb, true, swp d1 jb a) := by
          rw [HP.out]
          unfold partTail
          simp only [HUi.out, HUj.out]
          rw [if_pos (by omega)]
        rw [hr]
        exact M6.out.done _
end

end Go.Proofs.YtglkmpglpddfdaaGreatDoor
