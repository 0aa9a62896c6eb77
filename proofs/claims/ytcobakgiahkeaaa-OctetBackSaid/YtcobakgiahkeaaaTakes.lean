/- The walk of the law OctetTakes. -/
import Derived.Test.YtcobakgiahkeaaaReft
import Derived.Test.YtcobakgiahkeaaaStops
import Derived.Deep.RegionWith
import Derived.Deep.RegionHeld3
import Derived.Deep.QuietTactic
import Derived.BigQuiet
namespace Go.Proofs.Ytcobakgiahkeaaa
open Go.RowKit
set_option linter.unusedVariables false

theorem RT.beside {w w' : World} {P Q : Nat} {t : TypeId} {cs : Array Value} {l : List UInt8} {er : Int} (h : RT w Q l er) (hP : Has w P t cs) (hne : 36 ≠ t) (hg : w.grownBy w' (some P)) : RT w' Q l er :=
  Has.grown h hg (by intro e; injection e with e; exact Has.apart h hP hne e)
theorem Tk.has {w : World} {base P : Nat} {l : List UInt8} {er : Int} (h : Tk w base P l er) : ∃ cs, Has w P 50 cs := by
  obtain ⟨A, c, hP, _⟩ := h
  exact ⟨_, hP⟩
theorem RT.with_ {w w' : World} {base P Q : Nat} {l l' : List UInt8} {er er' : Int} (h : RT w Q l er) (hT : Tk w base P l' er') (hg : w.grownBy w' (some P)) : RT w' Q l er := by
  obtain ⟨cs, hP⟩ := hT.has
  exact h.beside hP (by decide) hg
theorem Tk.with_ {w w' : World} {base P Q : Nat} {l l' : List UInt8} {er er' : Int} (hT : Tk w base P l' er') (h : RT w Q l er) (hg : w.grownBy w' (some Q)) : Tk w' base P l' er' := hT.beside h (by decide) (by decide) hg

theorem RT.drew {w : World} {Q : Nat} {l : List UInt8} {er : Int} (h : RT w Q l er) : RT w.drew Q l er := h
theorem Tk.drew {w : World} {base P : Nat} {l : List UInt8} {er : Int} (h : Tk w base P l er) : Tk w.drew base P l er := h
theorem RT.drewN {w : World} {Q : Nat} {l : List UInt8} {er : Int} (h : RT w Q l er) (n : Nat) : RT (w.drewN n) Q l er := h
theorem Tk.drewN {w : World} {base P : Nat} {l : List UInt8} {er : Int} (h : Tk w base P l er) (n : Nat) : Tk (w.drewN n) base P l er := h
theorem stS_len (l : List UInt8) (er : Int) (n : Nat) : (stS l er n).2.1.length ≤ l.length := by
  unfold stS
  split
  · simp
  · split <;> simp
theorem stT_len (l : List UInt8) (er : Int) : (stT l er).2.1.length ≤ l.length := Nat.le_trans (stS_len _ _ _) (stN_len l er 1)
theorem Row.row_with {w w' : World} {lo Q : Nat} {A : Option Addr} {xs : List Value} {l : List UInt8} {er : Int} (h : Row w 5 lo A xs) (hQ : RT w Q l er) (hg : w.grownBy w' (some Q)) : Row w' 5 lo A xs := h.grown hQ (by decide) hg
/-- What the round is told. -/
def TakesRel (w : World) (m base P Q : Nat) (i : Value) (wr : World) : Prop :=
  ∃ (k : Nat) (r : List UInt8) (er : Int), k ≤ m ∧ i = .int .i64 k ∧ r.length ≤ 3000 ∧ Tk wr base P r er ∧ RT wr Q r er ∧ Below w.heap.size w wr

set_option maxRecDepth 100000 in
set_option maxHeartbeats 8000000 in
theorem walkTakes (A A2 : Option Addr) (n c m c2 : Nat) (l : List UInt8) (ks : List (Int × Int)) (w : World) (hb : Arg w A n c l) (hl : Steps w A2 m ks) :
    Calls Try.prog 4 #[.slice A n c, .slice A2 m c2] w fun e w' => e = .returned (.bool true) ∧ Below w.heap.size w w' := by
  by_cases hg : n ≤ 3000 ∧ m ≤ 60
  · obtain ⟨h1, h2⟩ := hg
    have HA := Lib.hid hb
    have HS := Lib.hid hl
    clear hb hl
    have hn : l.length ≤ 3000 := by rw [← HA.out.len]; exact h1
    have e1 : decide (3000 < (n : Int)) = false := by simp; omega
    have e2 : decide (60 < (m : Int)) = false := by simp; omega
    go_enter Try.func4, Try.ntmps4
    go_wp2_with (first
      | (go_at_call 8; refine (awake_any _).mono ?_; rintro e w0 ⟨rfl, h0⟩; have B0 := Lib.hid h0; clear h0)
      | (go_at_call 13; have HK := Take_any A c l _ (by omega) (HA.out.below B0.out).reads; rw [← HA.out.len] at HK; refine HK.mono ?_; clear HK; rintro e w1 ⟨P, rfl, h3, h4⟩; have T1 := Lib.hid h3; have B1 := Lib.hid (below_step B0.out h4); have hv := run_string_of (P := Try.prog) w1 24 9 5 Try.underlying24 Try.underlying5 Try.underlying9 (cap := c) HA.out.len (HA.out.below (below_step B0.out h4)).reads; clear h3 h4))
    have LE : Hid (w.heap.size ≤ w0.heap.size) := B0.out.size
    have LQ : Hid (w.heap.size ≤ w1.heap.size) := B1.out.size
    go_loopw [8] (fun i wr => TakesRel w m w0.heap.size P w1.heap.size i wr) (fun i _ => m - (intOf i).toNat)
    case atStart => exact ⟨0, l, 0, Nat.zero_le _, rfl, hn, T1.out.below ((Below.refl _ _).alloc (Nat.le_refl _) _), Has.made w1 36 _, B1.out.alloc B1.out.size _⟩
    case round =>
      obtain ⟨k, r, er, hk, rfl, hr, hT, hR, hB⟩ := hrel
      have TR := Lib.hid hT
      have RR := Lib.hid hR
      have BR := Lib.hid hB
      have BP : Hid (w.heap.size ≤ P) := Nat.le_trans LE.out hT.base_le
      clear hT hB hR
      by_cases hlt : k < m
      · obtain ⟨b, off, hA2, hbl, hcs⟩ := HS.out.cells (by omega)
        obtain ⟨⟨kd, sz⟩, hks⟩ : ∃ q, ks[k]? = some q := ⟨_, List.getElem?_eq_getElem (by have := HS.out.len; omega)⟩
        have HCK : Hid (∀ wz, Below w.heap.size w wz → wz.cell? ⟨b, off + k * 2, none⟩ = some (.int .i64 kd)) := fun wz hz => (hz.cell (p := ⟨b, off + k * 2, none⟩) hbl).trans (hcs k kd sz hks).1
        have HCZ : Hid (∀ wz, Below w.heap.size w wz → wz.cell? ⟨b, off + k * 2 + 1, none⟩ = some (.int .i64 sz)) := fun wz hz => (hz.cell (p := ⟨b, off + k * 2 + 1, none⟩) hbl).trans (hcs k kd sz hks).2
        have hck := HCK.out wr BR.out
        have hcz := HCZ.out wr BR.out
        subst hA2
        clear hcs hks
        by_cases k0 : kd = 0
        · subst k0
          have hr1 := stN_len r er sz
          have HN : Hid (∀ wz, Tk wz w0.heap.size P r er → Calls Try.prog 14 #[.pointer (some ⟨P, 0, none⟩), .int .i64 sz] wz (NumEnd w0.heap.size P wz (stN r er sz).1 (stN r er sz).2.1 (stN r er sz).2.2)) := fun wz hz => tNum_any w0.heap.size P r er sz wz hz
          have HM : Hid (∀ wz, RT wz w1.heap.size r er → Calls Try.prog 15 #[.pointer (some ⟨w1.heap.size, 0, none⟩), .int .i64 sz] wz (RNumEnd w1.heap.size wz (stN r er sz).1 (stN r er sz).2.1 (stN r er sz).2.2)) := fun wz hz => rtNum_any w1.heap.size r er sz wz hz (by omega)
          generalize stN r er sz = q at HN HM hr1
          obtain ⟨x, r1, er1⟩ := q
          simp only at HN HM hr1
          go_wp2
          replace TR := Lib.hid TR.out.drew
          replace RR := Lib.hid RR.out.drew
          replace BR := Lib.hid BR.out.drew
          go_region_with (first
            | (go_at_call 14; refine (HN.out _ TR.out).mono ?_; rintro e w3 ⟨rfl, h3, h4⟩; have T3 := Lib.hid h3; have R3 := Lib.hid (RR.out.with_ TR.out h4); have B3 := Lib.hid (BR.out.trans (below_only h4 BP.out BR.out.size)); have hcz3 := HCZ.out _ B3.out; clear h3 h4)
            | (go_at_call 14; refine (HN.out _ T5.out).mono ?_; rintro e wz ⟨rfl, h3, h4⟩; have TZ := Lib.hid h3; have RZ := Lib.hid (R5.out.with_ T5.out h4); have BZ := Lib.hid (B5.out.trans (below_only h4 BP.out B5.out.size)); have hczz := HCZ.out _ BZ.out; clear h3 h4)
            | (go_at_call 15; refine (HM.out _ R3.out).mono ?_; rintro e wz ⟨rfl, h3, h4⟩; have RZ := Lib.hid h3; have TZ := Lib.hid (T3.out.with_ R3.out h4); have BZ := Lib.hid (B3.out.trans (below_only h4 LQ.out B3.out.size)); have hczz := HCZ.out _ BZ.out; clear h3 h4)
            | (go_at_call 15; refine (HM.out _ RR.out).mono ?_; rintro e w5 ⟨rfl, h3, h4⟩; have R5 := Lib.hid h3; have T5 := Lib.hid (TR.out.with_ RR.out h4); have B5 := Lib.hid (BR.out.trans (below_only h4 LQ.out BR.out.size)); have hcz5 := HCZ.out _ B5.out; clear h3 h4))
          all_goals
            have hE := Has.cell1 RZ.out
            go_wp2
            go_quiet (first | ((go_at_call 20; exact Calls.quiet_of_same ((tErr_any (Tk.drewN TZ.out _)).mono fun _ _ ⟨he, hw⟩ => ⟨he, hw.symm⟩))) | ((go_at_call 21; exact Calls.quiet_of_same ((tDone_any (Tk.drewN TZ.out _)).mono fun _ _ ⟨he, hw⟩ => ⟨he, hw.symm⟩))) | ((go_at_call 22; exact Calls.quiet_of_same ((rtDone_any _ _ _ _ (RT.drewN RZ.out _)).mono fun _ _ ⟨he, hw⟩ => ⟨he, hw.symm⟩))))
            go_wp2
            go_roundw
            case rel => exact ⟨k + 1, r1, er1, by omega, by go_num, by omega, Tk.drewN TZ.out _, RT.drewN RZ.out _, below_drewN BZ.out _⟩
            case measure => simp [intOf]; omega
        · have k0' : (kd == 0) = false := by simpa using k0
          clear k0
          by_cases k1 : kd = 1
          · subst k1
            have hr1 := stT_len r er
            have HN : Hid (∀ wz, Tk wz w0.heap.size P r er → Calls Try.prog 16 #[.pointer (some ⟨P, 0, none⟩)] wz (StrEnd w0.heap.size P wz (stT r er).1 (stT r er).2.1 (stT r er).2.2)) := fun wz hz => tText_any w0.heap.size P r er wz hz
            have HM : Hid (∀ wz, RT wz w1.heap.size r er → Calls Try.prog 17 #[.pointer (some ⟨w1.heap.size, 0, none⟩)] wz (RStrEnd w1.heap.size wz (stT r er).1 (stT r er).2.1 (stT r er).2.2)) := fun wz hz => rtText_any w1.heap.size r er wz hz (by omega)
            generalize stT r er = q at HN HM hr1
            obtain ⟨x, r1, er1⟩ := q
            simp only at HN HM hr1
            go_wp2_with (first
              | (go_at_call 16; refine (HN.out _ TR.out).mono ?_; rintro e w3 ⟨rfl, h3, h4⟩; have T3 := Lib.hid h3; have R3 := Lib.hid (RR.out.with_ TR.out h4); have B3 := Lib.hid (BR.out.trans (below_only h4 BP.out BR.out.size)); clear h3 h4)
              | (go_at_call 17; refine (HM.out _ R3.out).mono ?_; rintro e wz ⟨rfl, h3, h4⟩; have RZ := Lib.hid h3; have TZ := Lib.hid (T3.out.with_ R3.out h4); have BZ := Lib.hid (B3.out.trans (below_only h4 LQ.out B3.out.size)); have hE := Has.cell1 RZ.out; clear h3 h4))
            have hE := Has.cell1 RZ.out
            go_wp2
            go_quiet (first | ((go_at_call 20; exact Calls.quiet_of_same ((tErr_any (Tk.drewN TZ.out _)).mono fun _ _ ⟨he, hw⟩ => ⟨he, hw.symm⟩))) | ((go_at_call 21; exact Calls.quiet_of_same ((tDone_any (Tk.drewN TZ.out _)).mono fun _ _ ⟨he, hw⟩ => ⟨he, hw.symm⟩))) | ((go_at_call 22; exact Calls.quiet_of_same ((rtDone_any _ _ _ _ (RT.drewN RZ.out _)).mono fun _ _ ⟨he, hw⟩ => ⟨he, hw.symm⟩))))
            go_wp2
            go_roundw
            case rel => exact ⟨k + 1, r1, er1, by omega, by go_num, by omega, Tk.drewN TZ.out _, RT.drewN RZ.out _, below_drewN BZ.out _⟩
            case measure => simp [intOf]; omega
          · have k1' : (kd == 1) = false := by simpa using k1
            clear k1
            by_cases k2 : kd = 2
            · subst k2
              have hr1 := stS_len r er r.length
              have HN : Hid (∀ wz, Tk wz w0.heap.size P r er → Calls Try.prog 18 #[.pointer (some ⟨P, 0, none⟩)] wz (BytEnd w0.heap.size P wz (stS r er r.length).1 (stS r er r.length).2.1 (stS r er r.length).2.2)) := fun wz hz => tRest_any w0.heap.size P r er wz hz (by omega)
              have HM : Hid (∀ wz, RT wz w1.heap.size r er → Calls Try.prog 19 #[.pointer (some ⟨w1.heap.size, 0, none⟩)] wz (RStrEnd w1.heap.size wz (stS r er r.length).1 (stS r er r.length).2.1 (stS r er r.length).2.2)) := fun wz hz => rtRest_any w1.heap.size r er wz hz (by omega)
              generalize stS r er r.length = q at HN HM hr1
              obtain ⟨x, r1, er1⟩ := q
              simp only at HN HM hr1
              go_wp2
              replace TR := Lib.hid TR.out.drew
              replace RR := Lib.hid RR.out.drew
              replace BR := Lib.hid BR.out.drew
              go_region_with (first
                | (go_at_call 18; refine (HN.out _ TR.out).mono ?_; rintro e w3 ⟨⟨A9, c9, rfl, _, _, h9⟩, h3, h4⟩; have hv3 := str_row (c := c9) rfl h9; have T3 := Lib.hid h3; have R3 := Lib.hid (RR.out.with_ TR.out h4); have B3 := Lib.hid (BR.out.trans (below_only h4 BP.out BR.out.size)); clear h3 h4)
                | (go_at_call 18; refine (HN.out _ T5.out).mono ?_; rintro e wz ⟨⟨A9, c9, rfl, _, _, h9⟩, h3, h4⟩; have hvz := str_row (c := c9) rfl h9; have TZ := Lib.hid h3; have RZ := Lib.hid (R5.out.with_ T5.out h4); have BZ := Lib.hid (B5.out.trans (below_only h4 BP.out B5.out.size)); clear h3 h4)
                | (go_at_call 19; refine (HM.out _ R3.out).mono ?_; rintro e wz ⟨rfl, h3, h4⟩; have RZ := Lib.hid h3; have TZ := Lib.hid (T3.out.with_ R3.out h4); have BZ := Lib.hid (B3.out.trans (below_only h4 LQ.out B3.out.size)); try (have hv3z := str_row (c := c9) rfl (h9.row_with R3.out h4)); clear h3 h4)
                | (go_at_call 19; refine (HM.out _ RR.out).mono ?_; rintro e w5 ⟨rfl, h3, h4⟩; have R5 := Lib.hid h3; have T5 := Lib.hid (TR.out.with_ RR.out h4); have B5 := Lib.hid (BR.out.trans (below_only h4 LQ.out BR.out.size)); clear h3 h4))
              all_goals
                have hE := Has.cell1 RZ.out
                go_wp2
                go_quiet (first | ((go_at_call 20; exact Calls.quiet_of_same ((tErr_any (Tk.drewN TZ.out _)).mono fun _ _ ⟨he, hw⟩ => ⟨he, hw.symm⟩))) | ((go_at_call 21; exact Calls.quiet_of_same ((tDone_any (Tk.drewN TZ.out _)).mono fun _ _ ⟨he, hw⟩ => ⟨he, hw.symm⟩))) | ((go_at_call 22; exact Calls.quiet_of_same ((rtDone_any _ _ _ _ (RT.drewN RZ.out _)).mono fun _ _ ⟨he, hw⟩ => ⟨he, hw.symm⟩))))
                go_wp2
                go_roundw
                case rel => exact ⟨k + 1, r1, er1, by omega, by go_num, by omega, Tk.drewN TZ.out _, RT.drewN RZ.out _, below_drewN BZ.out _⟩
                case measure => simp [intOf]; omega
            · have k2' : (kd == 2) = false := by simpa using k2
              clear k2
              have TZ := TR
              have RZ := RR
              have BZ := BR
              have hE := Has.cell1 RZ.out
              go_wp2
              go_quiet (first | ((go_at_call 20; exact Calls.quiet_of_same ((tErr_any (Tk.drewN TZ.out _)).mono fun _ _ ⟨he, hw⟩ => ⟨he, hw.symm⟩))) | ((go_at_call 21; exact Calls.quiet_of_same ((tDone_any (Tk.drewN TZ.out _)).mono fun _ _ ⟨he, hw⟩ => ⟨he, hw.symm⟩))) | ((go_at_call 22; exact Calls.quiet_of_same ((rtDone_any _ _ _ _ (RT.drewN RZ.out _)).mono fun _ _ ⟨he, hw⟩ => ⟨he, hw.symm⟩))))
              go_wp2
              go_roundw
              case rel => exact ⟨k + 1, r, er, by omega, by go_num, hr, Tk.drewN TZ.out _, RT.drewN RZ.out _, below_drewN BZ.out _⟩
              case measure => simp [intOf]; omega
      · go_wp2_with (first
          | (go_at_call 14; refine (tNum_nil _).mono ?_; rintro e w' ⟨rfl, rfl⟩)
          | (go_at_call 16; refine (tText_nil _).mono ?_; rintro e w' ⟨rfl, rfl⟩)
          | (go_at_call 18; refine (tRest_nil _).mono ?_; rintro e w' ⟨rfl, rfl⟩)
          | (go_at_call 20; refine (err_nil _).mono ?_; rintro e w' ⟨rfl, rfl⟩)
          | (go_at_call 21; refine (done_nil _).mono ?_; rintro e w' ⟨rfl, rfl⟩))
        go_ret
        exact ⟨rfl, BR.out⟩
  · clear hb hl
    by_cases h1 : n ≤ 3000
    · have e1 : decide (3000 < (n : Int)) = false := by simp; omega
      have e2 : decide (60 < (m : Int)) = true := by simp; omega
      go_enter Try.func4, Try.ntmps4
      go_wp2_with (go_at_call 8; refine (awake_any _).mono ?_; rintro e w0 ⟨rfl, h0⟩; have B0 := Lib.hid h0; clear h0)
      go_ret
      exact ⟨rfl, B0.out⟩
    · have e1 : decide (3000 < (n : Int)) = true := by simp; omega
      go_enter Try.func4, Try.ntmps4
      go_wp2_with (go_at_call 8; refine (awake_any _).mono ?_; rintro e w0 ⟨rfl, h0⟩; have B0 := Lib.hid h0; clear h0)
      go_ret
      exact ⟨rfl, B0.out⟩

end Go.Proofs.Ytcobakgiahkeaaa
