import Derived.Test.YtglkmpglpddfdaaGreatDoorJCpa
import Derived.Test.YtglkmpglpddfdaaGreatDoorJShel
import Derived.Test.YtglkmpglpddfdaaGreatDoorJ07
import Derived.Test.YtglkmpglpddfdaaGreatDoorJCof
import Derived.Test.YtglkmpglpddfdaaGreatDoorJ00
import Derived.ProofKit
import Derived.OpenShut
import Derived.ShutString
import Derived.ChangeOld
import Derived.Deep.SlicePairs
import Derived.Test.YtglkmpglpddfdaaGreatDoorCards
import Derived.Test.YtglkmpglpddfdaaGreatDoorTie
import Derived.LaidMore
import Derived.Lay
import Derived.Lib.LaidU8T
import Derived.SevenTiedAt
import Derived.Stop.Joined
/- Of a claim's texts, joined: Cpd Args Lay5 Par Parm. No statement but in the last. -/
section
namespace Go.Proofs.YtglkmpglpddfdaaGreatDoor
open Go.RowKit
set_option linter.unusedVariables false

structure Base5 (w : World) : Prop where
  b3 : Base3 w
  utf : Lib.Utf8Tabs 0 1 w
  pow : Lib.TabIs Tryz.prog w "internal/strconv.uint64pow10" .u64 Lib.pow10Tab
  synt : ∃ tp p, w.var? Tryz.prog "strconv.ErrSyntax" = some #[.iface tp p]
  rang : ∃ tp p, w.var? Tryz.prog "strconv.ErrRange" = some #[.iface tp p]
theorem var_below {w w' : World} {n : String} {cs : Array Value} (h : w.var? Tryz.prog n = some cs) (hb : Below w.heap.size w w') : w'.var? Tryz.prog n = some cs := by
  unfold World.var? at h ⊢
  cases hg : Tryz.prog.globalNamed n with
  | none => rw [hg] at h; cases h
  | some g =>
    rw [hg] at h
    simp only [Option.bind_some] at h ⊢
    cases hh : w.heap[g]? with
    | none => rw [hh] at h; cases h
    | some o =>
      rw [hb.block g (Array.getElem?_eq_some_iff.1 hh).1, hh]
      rw [hh] at h
      exact h
theorem Base5.below {w w' : World} (h : Base5 w) (hb : Below w.heap.size w w') : Base5 w' :=
  ⟨h.b3.below hb, Utf8Tabs_below h.utf hb, var_below h.pow hb, h.synt.imp fun _ ⟨p, hp⟩ => ⟨p, var_below hp hb⟩, h.rang.imp fun _ ⟨p, hp⟩ => ⟨p, var_below hp hb⟩⟩

/-! Name. -/
theorem valid_is (l : List UInt8) : Lib.validD l = wholeB l := by
  by_cases h : l = []
  · subst h
    rw [Lib.validD_nil]
    unfold wholeB sizeN
    rw [cut_nil]
    rfl
  · have hw := decL_width l h
    have ih := valid_is (l.drop (decL l).2)
    rw [Lib.validD_step l h]
    show (if (decL l).1 = 65533 ∧ (decL l).2 = 1 then false else Lib.validD (l.drop (decL l).2)) = _
    have hs := sizeN_cons h
    have hge := sizeN_ge (l.drop (decL l).2)
    rw [List.length_drop] at hge
    rcases decL_takes l h with ⟨h1, h2⟩ | ⟨h1, h2⟩
    · rw [if_pos ⟨h1, h2⟩]
      symm
      unfold wholeB
      rw [decide_eq_false_iff_not, hs, h1]
      have : takesN 65533 = 3 := rfl
      omega
    · rw [if_neg h2, ih]
      unfold wholeB
      rw [hs, h1, List.length_drop, Bool.eq_iff_iff, decide_eq_true_eq, decide_eq_true_eq]
      omega
termination_by l.length
decreasing_by
  have := decL_width l h
  rw [List.length_drop]
  omega
theorem isLetter_any (r : Nat) (w : World) : Calls Tryz.prog 30 #[.int .i32 (r : Int)] w fun e w' => e = .returned (.bool (letterB r)) ∧ w = w' := by
  obtain ⟨b1, h1⟩ : ∃ b, decide ((97 : Int) ≤ (r : Int)) = b := ⟨_, rfl⟩
  obtain ⟨b2, h2⟩ : ∃ b, decide ((r : Int) ≤ 122) = b := ⟨_, rfl⟩
  obtain ⟨b3, h3⟩ : ∃ b, decide ((65 : Int) ≤ (r : Int)) = b := ⟨_, rfl⟩
  obtain ⟨b4, h4⟩ : ∃ b, decide ((r : Int) ≤ 90) = b := ⟨_, rfl⟩
  obtain ⟨b5, h5⟩ : ∃ b, decide ((128 : Int) ≤ (r : Int)) = b := ⟨_, rfl⟩
  have HB : Hid (letterB r = ((b1 && b2) || (b3 && b4) || b5)) := Lib.hid (by
    rw [← h1, ← h2, ← h3, ← h4, ← h5, Bool.eq_iff_iff]
    simp [letterB]
    omega)
  rw [HB.out]
  clear HB
  cases b1 <;> cases b2 <;> cases b3 <;> cases b4 <;> cases b5
  all_goals
    go_enter Tryz.func30, Tryz.ntmps30
    go_wp2
    go_ret
    exact ⟨rfl, rfl⟩
set_option maxRecDepth 100000 in
set_option maxHeartbeats 1000000 in
theorem coName_any (L : List UInt8) (w : World) (ht : Base5 w) (hl : L.length ≤ 281474976710656) : Calls Tryz.prog 10 #[.string ⟨L.toArray⟩] w (BoolEnd (nameB L) w) := by
  have HV := Lib.hid (show Calls Tryz.prog 29 #[.string ⟨L.toArray⟩] w fun e w' => e = .returned (.bool (wholeB L)) ∧ Below w.heap.size w w' by
    have := Tryz.utf8_ValidString ⟨L.toArray⟩ w (by rw [size_list]; omega) ht.utf
    simp only [valid_is] at this
    exact this)
  have HLt := Lib.hid (fun (r : Nat) w1 => isLetter_any r w1)
  have HCL := Lib.hid (cut_len L)
  clear ht
  cases hw : wholeB L
  · rw [hw] at HV
    have HF : Hid (nameB L = false) := Lib.hid (by unfold nameB; rw [hw]; simp)
    clear hw
    go_enter Tryz.func10, Tryz.ntmps10
    go_wp2_with (go_at_call 29; (with_reducible refine HV.out.mono ?_); rintro e w1 ⟨rfl, h1⟩; have B1 := Lib.hid h1; clear h1)
    go_ret
    exact ⟨ret_bool HF.out.symm, B1.out⟩
  · rw [hw] at HV
    have HW := Lib.hid hw
    clear hw
    go_enter Tryz.func10, Tryz.ntmps10
    go_wp2_with (go_at_call 29; (with_reducible refine HV.out.mono ?_); rintro e w1 ⟨rfl, h1⟩; have B1 := Lib.hid h1; clear h1)
    go_loopw [3] (fun v wr => ∃ pos n : Nat, pos ≤ L.length ∧ wr.heap[w1.heap.size]? = some (.stringIter ⟨L.toArray⟩ pos) ∧ Below w1.heap.size w1 wr ∧ v = .int .i64 n ∧ n + (cut (L.drop pos)).length = (cut L).length ∧ ((cut L).all (fun x => letterB x.1) = (cut (L.drop pos)).all (fun x => letterB x.1))) (fun _ wr => L.length - wr.iterPos w1.heap.size)
    case atStart =>
      refine ⟨0, 0, Nat.zero_le _, ?_, (Below.refl _ w1).alloc (Nat.le_refl _) _, rfl, by simp, by simp⟩
      have := World.iter_heap w1 ⟨L.toArray⟩ 0
      simpa using this
    case round =>
      obtain ⟨pos, n, hp, hit, hB, rfl, hs, hal⟩ := hrel
      have HB := Lib.hid hB
      have HS := Lib.hid hs
      have HAl := Lib.hid hal
      clear hB hs hal
      by_cases hlt : pos < L.length
      · obtain ⟨hc, hw1, hw2, hr⟩ := drop_sign hlt
        have hnx := fun ty => next_sign (P := Tryz.prog) hit hlt ty
        have HI := Lib.hid (fun p => Lib.iterAt_heap wr w1.heap.size ⟨L.toArray⟩ pos p hit)
        have HBi := Lib.hid (fun p => Lib.below_iterAt HB.out (k := w1.heap.size) (Nat.le_refl _) ⟨L.toArray⟩ p)
        have HM := Lib.hid (iter_pos hit)
        have HC := Lib.hid hc
        clear hc
        generalize (decL (L.drop pos)).1 = r at hnx HC hr
        generalize (decL (L.drop pos)).2 = k at hnx HC hw1 hw2
        have HLr := Lib.hid (HLt.out r)
        have hnl : n < 281474976710656 := by have := HS.out; have := HCL.out; rw [HC.out, List.length_cons] at *; omega
        have HAr : Hid ((cut L).all (fun x => letterB x.1) = (letterB r && (cut (L.drop (pos + k))).all (fun x => letterB x.1))) := Lib.hid (by rw [HAl.out, HC.out]; rfl)
        have HNr : Hid (n + 1 + (cut (L.drop (pos + k))).length = (cut L).length) := Lib.hid (by rw [← HS.out, HC.out, List.length_cons]; omega)
        generalize letterB r = v at HLr HAr
        cases v
        · have HF : Hid (nameB L = false) := Lib.hid (by unfold nameB; rw [HAr.out]; rfl)
          go_wp2_with (go_at_call 30; refine (HLr.out _).mono ?_; rintro e w' ⟨rfl, rfl⟩)
          go_ret
          exact ⟨ret_bool HF.out.symm, below_step B1.out (HBi.out _)⟩
        · go_wp2_with (go_at_call 30; refine (HLr.out _).mono ?_; rintro e w' ⟨rfl, rfl⟩)
          go_roundw
          case rel => exact ⟨pos + k, n + 1, hw2, HI.out _, HBi.out _, by go_num, HNr.out, by rw [HAr.out, Bool.true_and]⟩
          case measure =>
            rw [iter_pos (HI.out _), HM.out]
            omega
      · have hnx := fun ty => next_end (P := Tryz.prog) hit hlt ty
        have hs := HS.out
        have ha := HAl.out
        rw [List.drop_eq_nil_of_le (by omega), cut_nil] at hs ha
        have hnm : nameB L = (decide (1 ≤ n) && decide (n ≤ 12)) := by
          unfold nameB
          rw [ha, ← hs, HW.out]
          simp
        have HN := Lib.hid hnm
        clear hnm hs ha
        by_cases h1 : 1 ≤ n
        · by_cases h2 : n ≤ 12
          · have e1 : decide ((1 : Int) ≤ (n : Int)) = true := by simp; omega
            have e2 : decide ((n : Int) ≤ 12) = true := by simp; omega
            go_wp2
            go_ret
            exact ⟨ret_bool (by rw [HN.out]; simp [h1, h2]), below_step B1.out HB.out⟩
          · have e1 : decide ((1 : Int) ≤ (n : Int)) = true := by simp; omega
            have e2 : decide ((n : Int) ≤ 12) = false := by simp; omega
            go_wp2
            go_ret
            exact ⟨ret_bool (by rw [HN.out]; simp [h1, h2]), below_step B1.out HB.out⟩
        · have e1 : decide ((1 : Int) ≤ (n : Int)) = false := by simp; omega
          go_wp2
          go_ret
          exact ⟨ret_bool (by rw [HN.out]; simp [h1]), below_step B1.out HB.out⟩

end Go.Proofs.YtglkmpglpddfdaaGreatDoor
end

section
namespace Go.Proofs.YtglkmpglpddfdaaGreatDoor
open Go.ChangeShapes Go.WideShapes Go.ChangeAt Go.RowKit Go.Deep
set_option linter.unusedVariables false

theorem own : ownKnob Tryz.prog.godebug = none := by kernel_rfl
theorem laidOut : laidOutB Tryz.prog = true := by kernel_rfl

section
variable {H : Type} {enc : TypeId × Value → H} {W : World} {base : Nat}

end

end Go.Proofs.YtglkmpglpddfdaaGreatDoor
end

section
namespace Go.Proofs.YtglkmpglpddfdaaGreatDoor
open Go.ChangeShapes Go.WideShapes Go.ChangeAt Go.RowKit Go.Shelf
set_option linter.unusedVariables false

abbrev lay : List (String × DataW Unit) := [("math/bits.deBruijn32tab", Rows.laid_math_bits_deBruijn32tab), ("math/bits.deBruijn64tab", Rows.laid_math_bits_deBruijn64tab), ("internal/strconv.uint64pow10", Rows.laid_internal_strconv_uint64pow10), ("unicode/utf8.acceptRanges", Rows.laid_unicode_utf8_acceptRanges), ("strconv.ErrRange", Rows.laid_strconv_ErrRange), ("strconv.ErrSyntax", Rows.laid_strconv_ErrSyntax), ("unicode/utf8.first", Rows.laid_unicode_utf8_first)]
abbrev layN : Nat := 72
abbrev layKinds : List LaidKind := [.data, .data, .data, .data, .sentinel, .sentinel, .pinned]
theorem lay_tab : (Rows.laid_math_bits_deBruijn64tab : DataW Unit) = .agg (Lib.deBruijn64tab.map fun x : Nat => .lit (.int .u8 (x : Int))) := rfl
theorem gTab : Tryz.prog.globalNamed "math/bits.deBruijn64tab" = some 3 := by kernel_rfl
theorem tTab : (Tryz.prog.globals[3]?).map (·.type) = some 167 := by kernel_rfl
theorem gPow : Tryz.prog.globalNamed "internal/strconv.uint64pow10" = some 4 := by kernel_rfl
theorem tPow : (Tryz.prog.globals[4]?).map (·.type) = some 170 := by kernel_rfl
theorem gErR : Tryz.prog.globalNamed "strconv.ErrRange" = some 7 := by kernel_rfl
theorem tErR : (Tryz.prog.globals[7]?).map (·.type) = some 112 := by kernel_rfl
theorem gErS : Tryz.prog.globalNamed "strconv.ErrSyntax" = some 6 := by kernel_rfl
theorem tErS : (Tryz.prog.globals[6]?).map (·.type) = some 112 := by kernel_rfl
theorem lay_pow : (Rows.laid_internal_strconv_uint64pow10 : DataW Unit) = Lib.tabData .u64 Lib.pow10Tab := by kernel_rfl
theorem lay_first : Rows.laid_unicode_utf8_first = Lib.firstData := by kernel_rfl
theorem lay_acc : (Rows.laid_unicode_utf8_acceptRanges : DataW Unit) = Lib.acceptData := by kernel_rfl
theorem tables8 : U8Extra Tryz.prog Tryz.lays196_ren := ⟨by kernel_rfl, by kernel_rfl, by kernel_rfl, by kernel_rfl, by kernel_rfl, by kernel_rfl, by kernel_rfl⟩

theorem iface_is {H : Type} {enc : TypeId × Value → H} {P : Program} {w : World} {base : Nat} {sp : Nat → Bool} {fuel : Nat} {t : TypeId} {cs : List Value} {nm : String} {d : DataW H} {p : List MemPlace} {ms : Array (String × TypeId)}
    (ht : P.underlying t = some (.interface ms)) (h : DataW.trod enc P w base sp false fuel t cs = some (.iface nm d, p)) : ∃ u v, cs = [.iface u v] := by
  cases fuel with
  | zero => simp [DataW.trod] at h
  | succ m =>
    match cs with
    | [] => simp [DataW.trod, ht] at h
    | [v] =>
      cases v <;> simp only [DataW.trod, ht] at h <;> first | exact ⟨_, _, rfl⟩ | cases h
    | _ :: _ :: _ => simp [DataW.trod, ht] at h
theorem iface_reads {n : String} {nm : String} {d : DataW Unit} {g : Nat} {ms : Array (String × TypeId)} {w : World} (hg : Tryz.prog.globalNamed n = some g) (hty : (Tryz.prog.globals[g]?).map (·.type) = some 112)
    (ht : Tryz.prog.underlying 112 = some (.interface ms)) (h : Lib.VarReads Tryz.prog w n (.iface nm d)) : ∃ tp p, w.var? Tryz.prog n = some #[.iface tp p] := by
  obtain ⟨g', t', cs, fuel, p, hg', hty', hvar, hd⟩ := h
  obtain rfl := Option.some.inj (hg.symm.trans hg')
  obtain rfl := Option.some.inj (hty.symm.trans hty')
  obtain ⟨u, v, hcs⟩ := iface_is ht hd
  refine ⟨u, v, ?_⟩
  rw [hvar, ← hcs]

theorem base3_of_reads {W : World} (h : Lib.VarReads Tryz.prog W "math/bits.deBruijn64tab" Rows.laid_math_bits_deBruijn64tab) : Base3 W := by
  obtain ⟨g0, t0, cs0, f0, p0, hg0, ht0, hv0, hd0⟩ := h
  obtain rfl := Option.some.inj (gTab.symm.trans hg0)
  obtain rfl := Option.some.inj (tTab.symm.trans ht0)
  obtain ⟨xs, m1, rfl, hx1, hlen, hn, hel⟩ := DataW.trod_array Tryz.underlying167 hd0
  have c1 : Tryz.prog.cellsOf 5 = 1 := by kernel_rfl
  have c16 : Tryz.prog.cellsOf 167 = 64 := by kernel_rfl
  rw [c16] at hlen
  simp only [Prod.mk.injEq] at hx1
  have hx := hx1.1
  rw [lay_tab] at hx
  injection hx with hx
  have htab : TabAt 3 Lib.deBruijn64tab W := by
    intro i hi
    have hi64 : i < 64 := hi
    have he := hel i hi64
    rw [c1, Nat.mul_one] at he
    obtain ⟨x, hxi⟩ : ∃ x, xs[i]? = some x := ⟨_, List.getElem?_eq_getElem (by omega)⟩
    obtain ⟨c, hci⟩ : ∃ c, cs0.toList[i]? = some c := ⟨_, List.getElem?_eq_getElem (by omega)⟩
    have hcl : (cs0.toList.drop i).take 1 = [c] := by
      obtain ⟨hlt, hget⟩ := List.getElem?_eq_some_iff.1 hci
      rw [List.drop_eq_getElem_cons hlt, hget]
      rfl
    rw [hcl, hxi] at he
    obtain ⟨k, hk1, hk2, _⟩ := DataW.trod_int Tryz.underlying5 he
    have hq : (xs.map (·.1))[i]? = some x.1 := by rw [List.getElem?_map, hxi]; rfl
    have hti : Lib.deBruijn64tab[i]? = some (Lib.deBruijn64tab.getD i 0) := by simp [List.getD, List.getElem?_eq_getElem hi]
    rw [← hx, List.getElem?_map, hti, hk2] at hq
    simp only [Option.map_some, Option.some.injEq, DataW.lit.injEq, Lit.int.injEq, true_and] at hq
    have hv := World.var?_cell hg0 hv0 i
    rw [hv, ← Array.getElem?_toList, hci]
    rw [(List.cons.inj hk1).1, hq]
  exact ⟨World.block_lt_of_cell? W ⟨3, 0, none⟩ (htab 0 (by decide)), htab⟩

theorem pow_of_reads {W : World} (h : Lib.VarReads Tryz.prog W "internal/strconv.uint64pow10" Rows.laid_internal_strconv_uint64pow10) : Lib.TabIs Tryz.prog W "internal/strconv.uint64pow10" .u64 Lib.pow10Tab := by
  obtain ⟨g, t, cs, fuel, p, hg, hty, hvar, hd⟩ := h
  obtain rfl := Option.some.inj (gPow.symm.trans hg)
  obtain rfl := Option.some.inj (tPow.symm.trans hty)
  rw [lay_pow] at hd
  unfold Lib.TabIs
  rw [hvar, ← Lib.cells_of_tab Tryz.underlying170 Tryz.underlying37 (by kernel_rfl) (by kernel_rfl) hd]
theorem base_of_laid {W : World} (h : laidMetH Tryz.prog lay W) : Base5 W := by
  rw [MakeChecks.laidMetH_plain _ _ _ (by kernel_rfl)] at h
  have r1 : Lib.VarReads Tryz.prog W "math/bits.deBruijn64tab" Rows.laid_math_bits_deBruijn64tab := Lib.laidMet.reads h (.tail _ (.head _))
  have r2 : Lib.VarReads Tryz.prog W "internal/strconv.uint64pow10" Rows.laid_internal_strconv_uint64pow10 := Lib.laidMet.reads h (.tail _ (.tail _ (.head _)))
  have r3 : Lib.VarReads Tryz.prog W "unicode/utf8.acceptRanges" Rows.laid_unicode_utf8_acceptRanges := Lib.laidMet.reads h (.tail _ (.tail _ (.tail _ (.head _))))
  have r4 : Lib.VarReads Tryz.prog W "strconv.ErrRange" Rows.laid_strconv_ErrRange := Lib.laidMet.reads h (.tail _ (.tail _ (.tail _ (.tail _ (.head _)))))
  have r5 : Lib.VarReads Tryz.prog W "strconv.ErrSyntax" Rows.laid_strconv_ErrSyntax := Lib.laidMet.reads h (.tail _ (.tail _ (.tail _ (.tail _ (.tail _ (.head _))))))
  have r6 : Lib.VarReads Tryz.prog W "unicode/utf8.first" Rows.laid_unicode_utf8_first := Lib.laidMet.reads h (.tail _ (.tail _ (.tail _ (.tail _ (.tail _ (.tail _ (.head _)))))))
  rw [lay_acc] at r3
  rw [lay_first] at r6
  exact ⟨base3_of_reads r1, utf8Tabs_of_readsT (U8Types.of196 Tryz.lays196) tables8 r6 r3, pow_of_reads r2, iface_reads gErS tErS Tryz.underlying112 r5, iface_reads gErR tErR Tryz.underlying112 r4⟩

theorem start_met (os : Os) (args : Array Value) : laidMetH Tryz.prog lay ((World.laidAll Tryz.prog os lay).forCall (fun _ _ => 0) ⟨#[], args, []⟩).memory := by
  rw [MakeChecks.laidMetH_plain _ _ _ (by kernel_rfl)]
  exact laidMet_laidAll _ (by kernel_rfl) (by kernel_rfl)

end Go.Proofs.YtglkmpglpddfdaaGreatDoor
end

section
namespace Go.Proofs.YtglkmpglpddfdaaGreatDoor
open Go.RowKit
set_option linter.unusedVariables false

/-! A line's words, and what they do. -/
def wAt (l : List Wd) (i : Nat) : Wd := l.getD i ([], 0)
theorem wAt_at (l : List Wd) (i : Nat) (h : i < l.length) : wAt l i = l[i] := by simp [wAt, List.getD, List.getElem?_eq_getElem h]
def badAt (c : Cf) (l : List Wd) (en i : Nat) : Option Nat :=
  if l.length ≤ i then some en
  else if (wAt l 0).1 = labelT then
    (if (i = 1 ∧ (nameB (wAt l i).1 = false ∨ 0 ≤ findN c.names (wAt l i).1 ∨ 64 ≤ c.names.length)) ∨ (i = 2 ∧ quotaN (wAt l i).1 < 0) then some (wAt l i).2 else none)
  else if findN c.names (wAt l i).1 < 0 then some (wAt l i).2 else none
def badFrom (c : Cf) (l : List Wd) (en : Nat) : Nat → Nat → Option Nat
  | _, 0 => none
  | i, f + 1 => match badAt c l en i with
    | some p => some p
    | none => badFrom c l en (i + 1) f
theorem badFrom_some {c : Cf} {l : List Wd} {en p : Nat} : ∀ {f i k : Nat}, i ≤ k → k < i + f → (∀ j, i ≤ j → j < k → badAt c l en j = none) → badAt c l en k = some p → badFrom c l en i f = some p := by
  intro f
  induction f with
  | zero => intro i k h1 h2; omega
  | succ f ih =>
    intro i k h1 h2 h3 h4
    unfold badFrom
    by_cases e : i = k
    · subst e; rw [h4]
    · rw [h3 i (Nat.le_refl _) (by omega)]
      exact ih (by omega) (by omega) (fun j hj hk => h3 j (by omega) hk) h4
theorem badFrom_none {c : Cf} {l : List Wd} {en : Nat} : ∀ {f i : Nat}, (∀ j, i ≤ j → j < i + f → badAt c l en j = none) → badFrom c l en i f = none := by
  intro f
  induction f with
  | zero => intro i _; rfl
  | succ f ih =>
    intro i h
    unfold badFrom
    rw [h i (Nat.le_refl _) (by omega)]
    exact ih (fun j hj hk => h j (by omega) (by omega))
def insG (l : List G) (g : G) : List G := if g ∈ l then l else l.takeWhile (fun x => lessG x g) ++ g :: l.dropWhile (fun x => lessG x g)
def numAt (c : Cf) (l : List Wd) (i : Nat) : Int := findN c.names (wAt l i).1
def doLabel (c : Cf) (l : List Wd) : Cf := ⟨c.names ++ [(wAt l 1).1], c.up ++ [2 ^ c.up.length], c.quotas ++ [quotaN (wAt l 2).1], c.grants⟩
def doUnder (c : Cf) (l : List Wd) : Cf :=
  if ubit c.up (numAt c l 1).toNat (numAt c l 2).toNat = true then c else { c with up := c.up.set (numAt c l 1).toNat (c.up.getD (numAt c l 1).toNat 0 + 2 ^ (numAt c l 2).toNat) }
def doGrant (c : Cf) (l : List Wd) : Cf := { c with grants := insG c.grants ⟨numAt c l 1, numAt c l 2, numAt c l 3⟩ }
def doLine (c : Cf) (l : List Wd) : Cf := if (wAt l 0).1 = labelT then doLabel c l else if (wAt l 0).1 = underT then doUnder c l else doGrant c l
def lineN (c : Cf) (l : List Wd) (en : Nat) : Cf × Nat :=
  if manyN (wAt l 0).1 = 0 then (c, (wAt l 0).2)
  else match badFrom c l en 1 (manyN (wAt l 0).1 - 1) with
    | some p => (c, p)
    | none => if manyN (wAt l 0).1 < l.length then (c, (wAt l (manyN (wAt l 0).1)).2) else (doLine c l, 0)
structure Okf (c : Cf) (m : Nat) : Prop where
  ups : c.up.length = c.names.length
  quo : c.quotas.length = c.names.length
  most : c.names.length ≤ 64
  big : ∀ x ∈ c.up, x < 2 ^ 64
  few : c.grants.length ≤ m
theorem okf0 : Okf cf0 0 := ⟨rfl, rfl, by simp [cf0], fun x hx => by simp [cf0] at hx, by simp [cf0]⟩
theorem insG_len (l : List G) (g : G) : (insG l g).length ≤ l.length + 1 := by
  unfold insG
  split
  · omega
  · rw [List.length_append, List.length_cons]
    have := congrArg List.length (List.takeWhile_append_dropWhile (p := fun x => lessG x g) (l := l))
    rw [List.length_append] at this
    omega
theorem findN_lt {l : List (List UInt8)} {s : List UInt8} : findN l s < l.length := by
  unfold findN
  rcases firstN_cases (fun i => decide (l.getD i [] = s)) l.length with ⟨k, h1, _, _, h4⟩ | ⟨_, h2⟩
  · rw [h4]; omega
  · rw [h2]; omega
theorem lineN_ok {c : Cf} {m : Nat} (h : Okf c m) (l : List Wd) (en : Nat) : Okf (lineN c l en).1 (m + 1) := by
  have h' : Okf c (m + 1) := ⟨h.ups, h.quo, h.most, h.big, by have := h.few; omega⟩
  unfold lineN
  split
  · exact h'
  · rename_i hm
    split
    · exact h'
    · rename_i hb
      split
      · exact h'
      · unfold doLine
        split
        · rename_i hl
          have h64 : c.names.length < 64 := by
            apply Classical.byContradiction
            intro hn
            have : badAt c l en 1 ≠ none := by
              unfold badAt
              split
              · simp
              · rw [if_pos (.inl ⟨rfl, .inr (.inr (by omega))⟩)]
                simp
            have hn1 : badFrom c l en 1 (manyN (wAt l 0).1 - 1) ≠ none := by
              have h3 : manyN (wAt l 0).1 = 3 := by simp [manyN, hl]
              rw [h3]
              obtain ⟨p, hp⟩ := Option.ne_none_iff_exists'.1 this
              rw [badFrom_some (k := 1) (Nat.le_refl _) (by omega) (fun j h1 h2 => by omega) hp]
              simp
            exact hn1 hb
          refine ⟨by simp [doLabel, h.ups], by simp [doLabel, h.quo], by simp [doLabel]; omega, fun x hx => ?_, by simp [doLabel]; have := h.few; omega⟩
          simp only [doLabel, List.mem_append, List.mem_singleton] at hx
          rcases hx with hx | rfl
          · exact h.big x hx
          · have := h.ups
            exact Nat.pow_lt_pow_right (by omega) (by omega)
        · split
          · unfold doUnder
            split
            · exact h'
            · rename_i hu
              refine ⟨by simp [h.ups], h.quo, h.most, fun x hx => ?_, by have := h.few; simp; omega⟩
              simp only at hx
              rcases List.mem_or_eq_of_mem_set hx with hx | rfl
              · exact h.big x hx
              · have hb2 : (numAt c l 2).toNat < 64 := by
                  have := findN_lt (l := c.names) (s := (wAt l 2).1)
                  have := h.most
                  unfold numAt
                  omega
                have hg : c.up.getD (numAt c l 1).toNat 0 < 2 ^ 64 := by
                  by_cases hi : (numAt c l 1).toNat < c.up.length
                  · rw [getD_at _ _ hi]; exact h.big _ (List.getElem_mem hi)
                  · have : c.up.getD (numAt c l 1).toNat 0 = 0 := by simp [List.getD, List.getElem?_eq_none (Nat.le_of_not_lt hi)]
                    rw [this]; decide
                have hu' : (c.up.getD (numAt c l 1).toNat 0).testBit (numAt c l 2).toNat = false := by
                  unfold ubit at hu
                  simpa using hu
                apply Nat.lt_pow_two_of_testBit
                intro j hj
                rw [add_bit _ _ _ hu', Nat.testBit_lt_two_pow (Nat.lt_of_lt_of_le hg (Nat.pow_le_pow_right (by omega) hj))]
                simp
                omega
          · refine ⟨h.ups, h.quo, h.most, h.big, ?_⟩
            have := insG_len c.grants ⟨numAt c l 1, numAt c l 2, numAt c l 3⟩
            have := h.few
            simp only [doGrant]
            omega

end Go.Proofs.YtglkmpglpddfdaaGreatDoor
end

section
namespace Go.Proofs.YtglkmpglpddfdaaGreatDoor
open Go.RowKit
set_option linter.unusedVariables false

/-! Lines. -/
def linesN : List UInt8 → List (List UInt8)
  | [] => [[]]
  | b :: t => if b = 10 then [] :: linesN t else match linesN t with
    | [] => [[b]]
    | x :: r => (b :: x) :: r
theorem linesN_mid (x t : List UInt8) (h : ∀ b ∈ x, b ≠ 10) : linesN (x ++ 10 :: t) = x :: linesN t := by
  induction x with
  | nil => simp [linesN]
  | cons b x ih =>
    have hb : b ≠ 10 := h b (by simp)
    have hi := ih (fun b hb => h b (by simp [hb]))
    show linesN (b :: (x ++ 10 :: t)) = _
    rw [linesN, if_neg hb, hi]
theorem linesN_last (x : List UInt8) (h : ∀ b ∈ x, b ≠ 10) : linesN x = [x] := by
  induction x with
  | nil => rfl
  | cons b x ih =>
    have hb : b ≠ 10 := h b (by simp)
    have hi := ih (fun b hb => h b (by simp [hb]))
    unfold linesN
    rw [if_neg hb, hi]
def parseL : List (List UInt8) → Nat → Cf → Cf × Option (Nat × Nat)
  | [], _, c => (c, none)
  | x :: r, at_, c =>
    if (wordsN x).1 = [] then parseL r (at_ + 1) c
    else if 0 < (lineN c (wordsN x).1 (wordsN x).2).2 then ((lineN c (wordsN x).1 (wordsN x).2).1, some (at_, (lineN c (wordsN x).1 (wordsN x).2).2))
    else parseL r (at_ + 1) (lineN c (wordsN x).1 (wordsN x).2).1
noncomputable def parseN (s : List UInt8) : Cf × Int × Nat × Nat :=
  match parseL (linesN s) 1 cf0 with
  | (_, some (a, k)) => (cf0, 13, a, k)
  | (c, none) => if checkC { c with up := closeN c.up } = true then ({ c with up := closeN c.up }, 0, 0, 0) else (cf0, 13, 0, 0)
/-! Words are no longer than their line. -/
theorem addLast_len {out : List Wd} {b : List UInt8} {B : Nat} (h : ∀ x ∈ out, x.1.length ≤ B) : ∀ x ∈ addLast out b, x.1.length ≤ B + b.length := by
  intro x hx
  unfold addLast at hx
  rcases List.mem_append.1 hx with hx | hx
  · have := h x ((List.dropLast_sublist _).subset hx)
    omega
  · obtain ⟨y, hy, rfl⟩ := List.mem_map.1 hx
    have := h y (List.mem_of_getLast? (by simpa using hy))
    simp
    omega
theorem wordsM_len (l : List (Nat × List UInt8)) : ∀ (at_ en : Nat) (inn : Bool) (out : List Wd) (B : Nat), (∀ x ∈ out, x.1.length ≤ B) → ∀ x ∈ (wordsM l at_ en inn out).1, x.1.length ≤ B + ((l.map (·.2)).flatten).length := by
  induction l with
  | nil => intro at_ en inn out B h x hx; have := h x (by simpa [wordsM] using hx); omega
  | cons y l ih =>
    intro at_ en inn out B h x hx
    unfold wordsM at hx
    have hl : (((y :: l).map (·.2)).flatten).length = y.2.length + ((l.map (·.2)).flatten).length := by simp
    rw [hl]
    split at hx
    · have := h x hx; omega
    · split at hx
      · have := ih _ _ _ _ B h x hx; omega
      · have := ih _ _ _ _ (B + y.2.length) (addLast_len (by
          intro z hz
          split at hz
          · exact h z hz
          · rcases List.mem_append.1 hz with hz | hz
            · exact h z hz
            · simp at hz; subst hz; simp)) x hx
        omega
theorem wordsN_len (l : List UInt8) : ∀ x ∈ (wordsN l).1, x.1.length ≤ l.length := by
  intro x hx
  have := wordsM_len (cut l) 0 1 false [] 0 (fun x hx => by simp at hx) x hx
  rw [cut_flat] at this
  omega
theorem lineN_names {c : Cf} {l : List Wd} {en B : Nat} (h : ∀ x ∈ c.names, x.length ≤ B) (hl : ∀ x ∈ l, x.1.length ≤ B) : ∀ x ∈ (lineN c l en).1.names, x.length ≤ B := by
  have hw : ∀ i, (wAt l i).1.length ≤ B := fun i => by
    by_cases hi : i < l.length
    · rw [wAt_at l i hi]; exact hl _ (List.getElem_mem hi)
    · have : wAt l i = ([], 0) := by simp [wAt, List.getD, List.getElem?_eq_none (Nat.le_of_not_lt hi)]
      rw [this]; simp
  unfold lineN
  split
  · exact h
  · split
    · exact h
    · split
      · exact h
      · unfold doLine
        split
        · intro x hx
          simp only [doLabel, List.mem_append, List.mem_singleton] at hx
          rcases hx with hx | rfl
          · exact h x hx
          · exact hw 1
        · split
          · unfold doUnder
            split
            · exact h
            · exact h
          · exact h

end Go.Proofs.YtglkmpglpddfdaaGreatDoor
end
