/- The walk of the law DiskRuns: written by gen/drn.py out of lists of operations. -/
import Derived.Test.YthbchloghbfnmaaDxj
import Derived.Test.YthbchloghbfnmaaDot
namespace Go.Proofs.Ythbchloghbfnmaa
open Go.RowKit
set_option linter.unusedVariables false

theorem reads_ownv {w : World} {b : Nat} {e : TypeId} {n : Nat} {v : Value} {xs : List Value} (h : w.ownsRow b e 1 v n xs) : ∀ A c, v = .slice A n c → Reads w A xs := fun A c hv => by
  subst hv
  exact (Row.of_own h).reads
theorem GA.drew {w : World} {T : Tg} {A : Option Addr} {n c : Nat} {gs : List Gx} (h : GA w T A n c gs) : GA w.drew T A n c gs := h.below (Below.refl _ w).drew
/-- All that the looks behind a step need to know of one region. -/
theorem tail_facts {w wr : World} {TX : Tg} {D DA N m cX p n0 : Nat} {AX A0 : Option Addr} {gsX : List Gx} {ls : List Int} (hz : Dz w wr TX 0 D DA N (rgs gsX)) (hg : GA wr TX AX m cX gsX) (hi : Ints6 w A0 n0 ls) (hnb : newB ls = true) (hs : szs (rgs gsX) = ls.map Int.toNat) (hp : p < m) (hN : N ≤ 1000) :
    ∃ gb gO sb so dn lA lc ln, ∃ lz : List Int, ∃ sz, AX = some ⟨gb, gO, none⟩ ∧ A0 = some ⟨sb, so, none⟩ ∧ wr.cell? ⟨gb, gO + p * 4 + 1, none⟩ = some (.slice lA ln lc) ∧ wr.cell? ⟨gb, gO + p * 4 + 3, none⟩ = some (.bool dn) ∧ wr.cell? ⟨sb, so + p, none⟩ = some (.int .i64 sz) ∧
      Hid (∀ w1, Dz w w1 TX 0 D DA N (rgs gsX) → Calls Try.prog 23 #[.pointer (some ⟨D, 0, none⟩), .int .i64 (p : Int)] w1 fun e w' => e = .returned (.bool dn) ∧ w1 = w') ∧
      Hid (∀ w1, Dz w w1 TX 0 D DA N (rgs gsX) → Calls Try.prog 25 #[.pointer (some ⟨D, 0, none⟩), .int .i64 (p : Int)] w1 (IntsOut lz w1)) ∧
      Hid (∀ w1, Below wr.heap.size wr w1 → Calls Try.prog 26 #[.slice lA ln lc] w1 (IntsOut lz w1)) ∧
      Hid (∀ w1, Dz w w1 TX 0 D DA N (rgs gsX) → Calls Try.prog 27 #[.pointer (some ⟨D, 0, none⟩), .int .i64 (p : Int)] w1 fun e w' => e = .returned (.int .i64 sz) ∧ w1 = w') ∧
      Hid (lz.length ≤ 1000000) := by
  obtain ⟨g, hgg⟩ : ∃ g, gsX[p]? = some g := ⟨_, List.getElem?_eq_getElem (by rw [← hg.len]; exact hp)⟩
  have hrg := hg.rg hgg
  have hrp : (rgs gsX)[p]? = some g.r := by simp [rgs, hgg]
  obtain ⟨x0, hx0, hsz0⟩ := szs_at hs hrp
  have hx1 := newB_pos hnb (List.mem_of_getElem? hx0)
  obtain ⟨gb, gO, hAX, d0, d1, d2, d3⟩ := hg.at_ hgg
  obtain ⟨sb, so, hA0, hs0⟩ := hi.at_ hx0
  have hfew := hz.few g.r (List.mem_of_getElem? hrp)
  refine ⟨gb, gO, sb, so, g.r.down, g.lA, g.lc, g.r.loose.length, g.r.loose.map (·.1), x0, hAX, hA0, d1, d3, cellB hs0 hz.bel, Lib.hid fun w1 h1 => ?_, Lib.hid fun w1 h1 => ?_, Lib.hid fun w1 h1 => ?_, Lib.hid fun w1 h1 => ?_, Lib.hid ?_⟩
  · have := down_any (p : Int) h1.dk
    rw [show downN (rgs gsX) (p : Int) = g.r.down by simp [downN, hrg]] at this
    exact this
  · have := Loose_z (p : Int) h1 hN
    rw [show looL (rgs gsX) (p : Int) = g.r.loose.map (·.1) by simp [looL, hrg]] at this
    exact this
  · exact pages_any _ _ _ g.r.loose ((hg.reg hgg).lo.below h1) rfl (by omega)
  · have := len_any (p : Int) h1.dk
    rw [show ((lenN (rgs gsX) (p : Int) : Nat) : Int) = x0 by simp only [lenN, hrg]; omega] at this
    exact this
  · rw [List.length_map]
    omega
theorem nw_yes {T : Tg} {ls : List Int} {n : Nat} {w w' : World} {e : Ending} (hb : newB ls = true) (h : NwEnd T ls n w e w') : ∃ A' c' gs', e = .returned (.tuple #[.slice A' n c', .int .i64 0]) ∧ GA w' T A' n c' gs' ∧ rgs gs' = ls.map (fun x => fresh6 x.toNat) ∧ Below w.heap.size w w' := by
  obtain ⟨h1, h2⟩ := h
  rw [if_pos hb] at h2
  obtain ⟨A', c', gs', h3, h4, h5⟩ := h2
  exact ⟨A', c', gs', h3, h4, h5, h1⟩
theorem nw_no {T : Tg} {ls : List Int} {n : Nat} {w w' : World} {e : Ending} (hb : newB ls = false) (h : NwEnd T ls n w e w') : e = .returned (.tuple #[.slice none 0 0, .int .i64 1]) ∧ Below w.heap.size w w' := by
  obtain ⟨h1, h2⟩ := h
  rw [if_neg (by rw [hb]; decide)] at h2
  exact ⟨h2, h1⟩
theorem Ints6.below {w w' : World} {A : Option Addr} {n : Nat} {l : List Int} (h : Ints6 w A n l) (hb : Below w.heap.size w w') : Ints6 w' A n l := ⟨h.len, h.reads.keep_ hb⟩
set_option maxRecDepth 100000 in
set_option maxHeartbeats 40000000 in
theorem walkRuns (A0 A : Option Addr) (m c0 n c : Nat) (ls : List Int) (l : List Sx) (w : World) (hi : Ints6 w A0 m ls) (hl : StepsA w A n l) (hn : n ≤ 9223372036854775807) :
    Calls Try.prog 3 #[.slice A0 m c0, .slice A n c] w fun e w' => e = .returned (.bool true) ∧ Below w.heap.size w w' := by
  have HS := Lib.hid hl
  have HI := Lib.hid hi
  clear hl hi
  cases hsm : smB l with
  | false =>
    have hsm2 := Lib.hid hsm
    clear hsm
    go_enter Try.func3, Try.ntmps3
    go_wp2_with (first
      | (go_at_call 8; (with_reducible refine (awake06_any _).mono ?_); rintro e w1 ⟨rfl, h0⟩; have B1 := Lib.hid h0; clear h0)
      | (go_at_call 9; have hq := small_any _ _ c l w1 (HS.out.below B1.out) (by omega); rw [hsm2.out] at hq; (with_reducible refine hq.mono ?_); clear hq; rintro e w2 ⟨rfl, rfl⟩))
    go_ret
    exact ⟨rfl, B1.out⟩
  | true =>
    have HM0 := Lib.hid hsm
    have hm : n ≤ 40 := by rw [HS.out.len]; exact smB_len hsm
    clear hsm hn
    by_cases h70 : 70 < m
    · have e70 : (70 : Int) < (m : Int) := by omega
      go_enter Try.func3, Try.ntmps3
      go_wp2_with (first
        | (go_at_call 8; (with_reducible refine (awake06_any _).mono ?_); rintro e w1 ⟨rfl, h0⟩; have B1 := Lib.hid h0; clear h0)
        | (go_at_call 9; have hq := small_any _ _ c l w1 (HS.out.below B1.out) (by omega); rw [HM0.out] at hq; (with_reducible refine hq.mono ?_); clear hq; rintro e w2 ⟨rfl, rfl⟩))
      go_ret
      exact ⟨rfl, B1.out⟩
    · have e70 : ¬ (70 : Int) < (m : Int) := by omega
      cases hnb : newB ls with
      | false =>
        have HNB := Lib.hid hnb
        clear hnb
        by_cases hn0 : n = 0
        · subst hn0
          go_enter Try.func3, Try.ntmps3
          go_wp2_with (first
            | (go_at_call 8; (with_reducible refine (awake06_any _).mono ?_); rintro e w1 ⟨rfl, h0⟩; have B1 := Lib.hid h0; clear h0)
            | (go_at_call 9; have hq := small_any _ _ c l w1 (HS.out.below B1.out) (by omega); rw [HM0.out] at hq; (with_reducible refine hq.mono ?_); clear hq; rintro e w2 ⟨rfl, rfl⟩)
            | (go_at_call 10; (with_reducible refine (New_bad A0 m c0 ls _ (HI.out.below B1.out) (by omega) HNB.out).mono ?_); rintro e w3 ⟨rfl, rfl⟩)
            | (go_at_call 11; (with_reducible refine (r6New_any (T := noT) A0 m c0 ls (HI.out.below B1.out) (by omega) (fun _ _ => rfl)).mono ?_); intro e w4 hr; obtain ⟨rfl, h5⟩ := nw_no HNB.out hr; have HB := Lib.hid (below_step B1.out h5); clear hr h5))
          go_loopw [9, 11] (fun v i wr => v = .slice none 0 0 ∧ i = .int .i64 0 ∧ wr = w4) (fun _ _ _ => 0)
          case atStart => exact ⟨rfl, rfl, rfl⟩
          case round =>
            obtain ⟨rfl, rfl, rfl⟩ := hrel
            go_wp2_with (first
              | (go_at_call 21; (with_reducible refine (Read_nil 0 0 _).mono ?_); intro e w7 hr; obtain ⟨h1, rfl⟩ := rd_no (by decide) hr; have B7 := Lib.hid (below_step HB.out h1); clear hr h1)
              | (go_at_call 17; (with_reducible refine (Stop_nil 0 0 _).mono ?_); rintro e w8 ⟨rfl, rfl⟩)
              | (go_at_call 19; (with_reducible refine (Crash_nil _ _).mono ?_); rintro e w8 ⟨rfl, rfl⟩)
              | (go_at_call 27; (with_reducible refine (len_nil 0 _).mono ?_); rintro e w8 ⟨rfl, rfl⟩)
              | (go_at_call 12; (with_reducible refine (Write_nil 0 0 _ _).mono ?_); rintro e w8 ⟨rfl, rfl⟩)
              | (go_at_call 15; (with_reducible refine (Sync_nil 0 _).mono ?_); rintro e w8 ⟨rfl, rfl⟩)
              | (go_at_call 25; (with_reducible refine (Loose_nil 0 _).mono ?_); rintro e w8 ⟨rfl, rfl⟩)
              | (go_at_call 23; (with_reducible refine (down_nil 0 _).mono ?_); rintro e w8 ⟨rfl, rfl⟩))
            go_ret
            exact ⟨rfl, B7.out⟩
        · have e0 : (0 : Int) < (n : Int) := by omega
          go_enter Try.func3, Try.ntmps3
          go_wp2_with (first
            | (go_at_call 8; (with_reducible refine (awake06_any _).mono ?_); rintro e w1 ⟨rfl, h0⟩; have B1 := Lib.hid h0; clear h0)
            | (go_at_call 9; have hq := small_any _ _ c l w1 (HS.out.below B1.out) (by omega); rw [HM0.out] at hq; (with_reducible refine hq.mono ?_); clear hq; rintro e w2 ⟨rfl, rfl⟩)
            | (go_at_call 10; (with_reducible refine (New_bad A0 m c0 ls _ (HI.out.below B1.out) (by omega) HNB.out).mono ?_); rintro e w3 ⟨rfl, rfl⟩)
            | (go_at_call 11; (with_reducible refine (r6New_any (T := noT) A0 m c0 ls (HI.out.below B1.out) (by omega) (fun _ _ => rfl)).mono ?_); intro e w4 hr; obtain ⟨rfl, h5⟩ := nw_no HNB.out hr; have HB := Lib.hid (below_step B1.out h5); clear hr h5))
          go_loopw [9, 11] (fun v i wr => v = .slice none 0 0 ∧ i = .int .i64 0 ∧ wr = w4) (fun _ _ _ => 0)
          case atStart => exact ⟨rfl, rfl, rfl⟩
          case round =>
            obtain ⟨rfl, rfl, rfl⟩ := hrel
            go_wp2_with (first
              | (go_at_call 21; (with_reducible refine (Read_nil 0 0 _).mono ?_); intro e w7 hr; obtain ⟨h1, rfl⟩ := rd_no (by decide) hr; have B7 := Lib.hid (below_step HB.out h1); clear hr h1)
              | (go_at_call 17; (with_reducible refine (Stop_nil 0 0 _).mono ?_); rintro e w8 ⟨rfl, rfl⟩)
              | (go_at_call 19; (with_reducible refine (Crash_nil _ _).mono ?_); rintro e w8 ⟨rfl, rfl⟩)
              | (go_at_call 27; (with_reducible refine (len_nil 0 _).mono ?_); rintro e w8 ⟨rfl, rfl⟩)
              | (go_at_call 12; (with_reducible refine (Write_nil 0 0 _ _).mono ?_); rintro e w8 ⟨rfl, rfl⟩)
              | (go_at_call 15; (with_reducible refine (Sync_nil 0 _).mono ?_); rintro e w8 ⟨rfl, rfl⟩)
              | (go_at_call 25; (with_reducible refine (Loose_nil 0 _).mono ?_); rintro e w8 ⟨rfl, rfl⟩)
              | (go_at_call 23; (with_reducible refine (down_nil 0 _).mono ?_); rintro e w8 ⟨rfl, rfl⟩))
            go_ret
            exact ⟨rfl, B7.out⟩
      | true =>
        have HNB := Lib.hid hnb
        clear hnb
        go_enter Try.func3, Try.ntmps3
        go_wp2_with (first
          | (go_at_call 8; (with_reducible refine (awake06_any _).mono ?_); rintro e w1 ⟨rfl, h0⟩; have B1 := Lib.hid h0; clear h0)
          | (go_at_call 9; have hq := small_any _ _ c l w1 (HS.out.below B1.out) (by omega); rw [HM0.out] at hq; (with_reducible refine hq.mono ?_); clear hq; rintro e w2 ⟨rfl, rfl⟩)
          | (go_at_call 10; (with_reducible refine (New_z (w0 := w) (c := c0) 0 (HI.out.below B1.out) (lo_none _ _) B1.out HNB.out).mono ?_); rintro e w3 ⟨D, DA, T3, rfl, h1, _, h2⟩; have Z3 := Lib.hid h1; clear h1 h2)
          | (go_at_call 11; (with_reducible refine (r6New_any A0 m c0 ls (HI.out.below Z3.out.bel) (by omega) (fun g hg => Z3.out.lo.un hg)).mono ?_); intro e w4 hr; obtain ⟨A4, c4, gs4, rfl, h3, h4, h5⟩ := nw_yes HNB.out hr; have G4 := Lib.hid h3; have R4 := Lib.hid h4; have Z4 := Lib.hid (Z3.out.below h5); clear hr h3 h4 h5))
        go_loopw [9, 11] (fun v i wr => ∃ (k : Nat) (gs : List Gx) (T : Tg) (A' : Option Addr) (c' : Nat), k ≤ n ∧ i = .int .i64 (k : Int) ∧ v = .slice A' m c' ∧ Dz w wr T 0 D DA k (rgs gs) ∧ GA wr T A' m c' gs ∧ szs (rgs gs) = ls.map Int.toNat) (fun _ i _ => n - (intOf i).toNat)
        case atStart => exact ⟨0, gs4, T3, A4, c4, Nat.zero_le _, rfl, rfl, by rw [R4.out]; exact Z4.out, G4.out, by rw [R4.out]; exact szs_new ls⟩
        case round =>
          obtain ⟨k, gs, T, A', c', hk, rfl, rfl, hz, hg, hsz⟩ := hrel
          have HZ := Lib.hid hz
          have HG := Lib.hid hg
          have HSZ := Lib.hid hsz
          clear hz hg hsz
          by_cases hlt : k < n
          · obtain ⟨x, b, off, hx, rfl, hbl, q0, q1, q2, q3, q4, q5⟩ := HS.out.at_ HZ.out.bel hlt
            have HKP := Lib.hid (HS.out.keep x (List.mem_of_getElem? hx))
            have HPA : Hid (x.s.page ≤ 9223372036854775807) := Lib.hid HKP.out.2.2.1
            have HK8 : Hid (x.s.keep.length ≤ 8) := Lib.hid (smB_keep HM0.out (List.mem_of_getElem? hx))
            have HXM := Lib.hid (List.mem_of_getElem? hx)
            clear hx
            have i1 : (k : Int) < n := by omega
            have i2 : (0 : Int) ≤ (k : Int) := by omega
            have hmx : Try.prog.follows .mixedOrders = true := by kernel_rfl
            have hb0 : Below wr.heap.size wr (wr.alloc (.cells #[.int .i64 x.s.kind, .int .i64 x.s.region, .int .i64 x.s.page, .int .u8 (x.s.fill.toNat : Int), .bool x.s.short, .slice x.ka x.kn x.kc] 35)) := (Below.refl _ wr).alloc (Nat.le_refl _) _
            have Z1 : Hid (Dz w (wr.alloc (.cells #[.int .i64 x.s.kind, .int .i64 x.s.region, .int .i64 x.s.page, .int .u8 (x.s.fill.toNat : Int), .bool x.s.short, .slice x.ka x.kn x.kc] 35)) T 0 D DA k (rgs gs)) := Lib.hid (HZ.out.below hb0)
            have G1 : Hid (GA (wr.alloc (.cells #[.int .i64 x.s.kind, .int .i64 x.s.region, .int .i64 x.s.page, .int .u8 (x.s.fill.toNat : Int), .bool x.s.short, .slice x.ka x.kn x.kc] 35)) T A' m c' gs) := Lib.hid (HG.out.below hb0)
            have X1 : Hid (Bk (wr.alloc (.cells #[.int .i64 x.s.kind, .int .i64 x.s.region, .int .i64 x.s.page, .int .u8 (x.s.fill.toNat : Int), .bool x.s.short, .slice x.ka x.kn x.kc] 35)) T wr.heap.size 35 x.cells) := Lib.hid ⟨Has.made wr 35 _, HZ.out.lo.un (Nat.le_refl _)⟩
            have HP := Lib.hid (fun w1 => show Calls Try.prog 13 #[.agg #[.int .i64 x.s.kind, .int .i64 x.s.region, .int .i64 x.s.page, .int .u8 (x.s.fill.toNat : Int), .bool x.s.short, .slice x.ka x.kn x.kc]] w1 (PgEnd (pgB x.s) w1) from page_any x.s x.kv rfl w1)
            have HGL : Hid (gs.length ≤ 1000) := Lib.hid (by rw [← HG.out.len]; omega)
            have HM : Hid (∀ r ∈ rgs gs, r.loose.length ≤ 1000) := Lib.hid (fun r hr => Nat.le_trans (HZ.out.few r hr) (by omega))
            have HPL : Hid ((pgB x.s).length ≤ 9223372036854775807) := Lib.hid (by rw [pgB_len]; unfold pgLen; split <;> omega)
            clear hb0 HZ HG
            by_cases k0 : x.s.kind = 0
            · have e0 : (x.s.kind == 0) = true := by simpa using k0
              clear k0
              as_aux_lemma =>
                go_wp2
                have hS : (fun w' : World => Sbox w' wr.heap.size x) (wr.alloc (.cells #[.int .i64 x.s.kind, .int .i64 x.s.region, .int .i64 x.s.page, .int .u8 (x.s.fill.toNat : Int), .bool x.s.short, .slice x.ka x.kn x.kc] 35)).drew := Sbox.of X1.out.has
                rename_i KB hKB K hK
                refine wp_held (fun w' : World => Sbox w' wr.heap.size x) K hmx ?_ (fun _ _ h => h)
                refine wpAnyH_take (i := 0) (v := .pointer (some ⟨D, 0, none⟩)) rfl (by kernel_rfl) (by kernel_rfl) (by kernel_rfl) (fun _ _ _ h => h) (Or.inl ⟨by rfl, ?_⟩) hS ?_
                · rintro w6 ⟨s0, s1, s2, s3, s4, s5⟩
                  go_simp
                simp only [Act.put, List.setIfInBounds_toArray, List.set_cons_zero, List.set_cons_succ, List.getElem_toArray, List.getElem_cons_zero]
                refine wpAnyH_take (i := 1) (v := .int .i64 x.s.region) rfl (by kernel_rfl) (by kernel_rfl) (by kernel_rfl) (fun _ _ _ h => h) (Or.inl ⟨by rfl, ?_⟩) hS ?_
                · rintro w6 ⟨s0, s1, s2, s3, s4, s5⟩
                  go_simp
                simp only [Act.put, List.setIfInBounds_toArray, List.set_cons_zero, List.set_cons_succ, List.getElem_toArray, List.getElem_cons_zero, List.getElem_cons_succ]
                refine wpAnyH_take (i := 2) (v := .pointer (some ⟨wr.heap.size, 2, none⟩)) rfl (by kernel_rfl) (by kernel_rfl) (by kernel_rfl) (fun _ _ _ h => h) (Or.inl ⟨by rfl, ?_⟩) hS ?_
                · rintro w6 ⟨s0, s1, s2, s3, s4, s5⟩
                  go_simp
                simp only [Act.put, List.setIfInBounds_toArray, List.set_cons_zero, List.set_cons_succ, List.getElem_toArray, List.getElem_cons_zero, List.getElem_cons_succ]
                refine wpAnyH_take (i := 3) (v := .int .i64 x.s.page) rfl (by kernel_rfl) (by kernel_rfl) (by kernel_rfl) (fun _ _ _ h => h) (Or.inl ⟨by rfl, ?_⟩) hS ?_
                · rintro w6 ⟨s0, s1, s2, s3, s4, s5⟩
                  go_simp
                simp only [Act.put, List.setIfInBounds_toArray, List.set_cons_zero, List.set_cons_succ, List.getElem_toArray, List.getElem_cons_zero, List.getElem_cons_succ]
                refine wpAnyH_take (i := 4) (v := .agg #[.int .i64 x.s.kind, .int .i64 x.s.region, .int .i64 x.s.page, .int .u8 (x.s.fill.toNat : Int), .bool x.s.short, .slice x.ka x.kn x.kc]) rfl (by kernel_rfl) (by kernel_rfl) (by kernel_rfl) (fun _ _ _ h => h) (Or.inl ⟨by rfl, ?_⟩) hS ?_
                · rintro w6 ⟨s0, s1, s2, s3, s4, s5⟩
                  go_simp
                simp only [Act.put, List.setIfInBounds_toArray, List.set_cons_zero, List.set_cons_succ, List.getElem_toArray, List.getElem_cons_zero, List.getElem_cons_succ]
                refine wpAnyH_ready (rs := [5]) (by kernel_rfl) (by simp) ?_
                refine AllReadyH.cons rfl (fun K5 hK5 => ?_) AllReadyH.nil
                go_simp
                go_at_call 13
                (with_reducible refine (HP.out _).mono ?_)
                rintro e w2 ⟨g2, rfl, h2, h3, h4⟩
                have Z2 := Lib.hid (Z1.out.drew.below h4)
                have G2 := Lib.hid (G1.out.drew.below h4)
                have K2 : Hid (Bk w2 T g2 5 _) := Lib.hid ⟨h3, Z1.out.drew.lo.un h2⟩
                have X2 := Lib.hid ((X1.out.below (Below.refl _ _).drew).below h4)
                clear h2 h3 h4
                have hS1 : (fun w' : World => Sbox w' wr.heap.size x) w2 := Sbox.of X2.out.has
                refine hK5.out _ _ hS1 (fun _ => ?_)
                clear hK5 K5
                refine wpAnyH_ready (rs := [6]) (by kernel_rfl) (by simp) ?_
                refine AllReadyH.cons rfl (fun K5 hK5 => ?_) AllReadyH.nil
                go_simp
                go_at_call 12
                (with_reducible refine (Write_z x.s.region x.s.page (pgB x.s) g2 Z2.out (by omega) K2.out).mono ?_)
                rintro e w3 ⟨rfl, T3, h1, h2⟩
                have Z3 := Lib.hid h1
                have X3 := Lib.hid (X2.out.tn h2)
                have G3 := Lib.hid (G2.out.tn h2)
                clear h1 h2
                have hS2 : (fun w' : World => Sbox w' wr.heap.size x) w3 := Sbox.of X3.out.has
                refine hK5.out _ _ hS2 (fun _ => ?_)
                clear hK5 K5
                refine wpAnyH_take (i := 7) (v := .int .i64 (wrA (rgs gs) x.s.region x.s.page (pgB x.s)).2) rfl (by kernel_rfl) (by kernel_rfl) (by kernel_rfl) (fun _ _ _ h => h) (Or.inl ⟨by rfl, ?_⟩) hS2 ?_
                · rintro w6 ⟨s0, s1, s2, s3, s4, s5⟩
                  go_simp
                simp only [Act.put, List.setIfInBounds_toArray, List.set_cons_zero, List.set_cons_succ, List.getElem_toArray, List.getElem_cons_zero, List.getElem_cons_succ]
                refine wpAnyH_done (by kernel_rfl) ?_ _
                refine hK _ _ ?_
                go_wp2
                have hS3 : (fun w' : World => Sbox w' wr.heap.size x) w3.drew := Sbox.of X3.out.has
                refine wp_heldHQ (fun w' : World => Sbox w' wr.heap.size x) hmx ?_
                refine wpAnyH_take (i := 0) (v := .slice A' m c') rfl (by kernel_rfl) (by kernel_rfl) (by kernel_rfl) (fun _ _ _ h => h) (Or.inl ⟨by rfl, ?_⟩) hS3 ?_
                · rintro w6 ⟨s0, s1, s2, s3, s4, s5⟩
                  go_simp
                simp only [Act.put, List.setIfInBounds_toArray, List.set_cons_zero, List.set_cons_succ, List.getElem_toArray, List.getElem_cons_zero]
                refine wpAnyH_take (i := 1) (v := .int .i64 x.s.region) rfl (by kernel_rfl) (by kernel_rfl) (by kernel_rfl) (fun _ _ _ h => h) (Or.inl ⟨by rfl, ?_⟩) hS3 ?_
                · rintro w6 ⟨s0, s1, s2, s3, s4, s5⟩
                  go_simp
                simp only [Act.put, List.setIfInBounds_toArray, List.set_cons_zero, List.set_cons_succ, List.getElem_toArray, List.getElem_cons_zero, List.getElem_cons_succ]
                refine wpAnyH_take (i := 2) (v := .pointer (some ⟨wr.heap.size, 2, none⟩)) rfl (by kernel_rfl) (by kernel_rfl) (by kernel_rfl) (fun _ _ _ h => h) (Or.inl ⟨by rfl, ?_⟩) hS3 ?_
                · rintro w6 ⟨s0, s1, s2, s3, s4, s5⟩
                  go_simp
                simp only [Act.put, List.setIfInBounds_toArray, List.set_cons_zero, List.set_cons_succ, List.getElem_toArray, List.getElem_cons_zero, List.getElem_cons_succ]
                refine wpAnyH_take (i := 3) (v := .int .i64 x.s.page) rfl (by kernel_rfl) (by kernel_rfl) (by kernel_rfl) (fun _ _ _ h => h) (Or.inl ⟨by rfl, ?_⟩) hS3 ?_
                · rintro w6 ⟨s0, s1, s2, s3, s4, s5⟩
                  go_simp
                simp only [Act.put, List.setIfInBounds_toArray, List.set_cons_zero, List.set_cons_succ, List.getElem_toArray, List.getElem_cons_zero, List.getElem_cons_succ]
                refine wpAnyH_take (i := 4) (v := .agg #[.int .i64 x.s.kind, .int .i64 x.s.region, .int .i64 x.s.page, .int .u8 (x.s.fill.toNat : Int), .bool x.s.short, .slice x.ka x.kn x.kc]) rfl (by kernel_rfl) (by kernel_rfl) (by kernel_rfl) (fun _ _ _ h => h) (Or.inl ⟨by rfl, ?_⟩) hS3 ?_
                · rintro w6 ⟨s0, s1, s2, s3, s4, s5⟩
                  go_simp
                simp only [Act.put, List.setIfInBounds_toArray, List.set_cons_zero, List.set_cons_succ, List.getElem_toArray, List.getElem_cons_zero, List.getElem_cons_succ]
                refine wpAnyH_ready (rs := [5]) (by kernel_rfl) (by simp) ?_
                refine AllReadyH.cons rfl (fun K5 hK5 => ?_) AllReadyH.nil
                go_simp
                go_at_call 13
                (with_reducible refine (HP.out _).mono ?_)
                rintro e w4 ⟨g4, rfl, h2, h3, h4⟩
                have Z4 := Lib.hid (Z3.out.drew.below h4)
                have G4 := Lib.hid (G3.out.drew.below h4)
                have K4 : Hid (Bk w4 T3 g4 5 _) := Lib.hid ⟨h3, Z3.out.drew.lo.un h2⟩
                have X4 := Lib.hid ((X3.out.below (Below.refl _ _).drew).below h4)
                clear h2 h3 h4
                have hS4 : (fun w' : World => Sbox w' wr.heap.size x) w4 := Sbox.of X4.out.has
                have hcv := str_reads (n := (pgB x.s).length) (c := (pgB x.s).length) rfl K4.out.reads
                refine hK5.out _ _ hS4 (fun _ => ?_)
                clear hK5 K5
                refine wpAnyH_ready (rs := [6]) (by kernel_rfl) (by simp) ?_
                refine AllReadyH.cons rfl (fun K5 hK5 => ?_) AllReadyH.nil
                go_simp
                skip
                refine hK5.out _ _ hS4 (fun _ => ?_)
                clear hK5 K5
                refine wpAnyH_ready (rs := [7]) (by kernel_rfl) (by simp) ?_
                refine AllReadyH.cons rfl (fun K5 hK5 => ?_) AllReadyH.nil
                go_simp
                go_at_call 14
                have hq := r6Write_any x.s.region x.s.page (pgB x.s) G4.out HGL.out HM.out (fun g hg => Z4.out.lo.un hg) HPL.out
                unfold txtV at hq
                (with_reducible refine hq.mono ?_)
                clear hq
                rintro e w5 ⟨A5, c5, gs5, rfl, h1, h2, h3⟩
                have G5 := Lib.hid h1
                have R5 := Lib.hid h2
                have Z5 := Lib.hid (Z4.out.below h3)
                have X5 := Lib.hid (X4.out.below h3)
                clear h1 h2 h3
                have hS5 : (fun w' : World => Sbox w' wr.heap.size x) w5 := Sbox.of X5.out.has
                refine hK5.out _ _ hS5 (fun _ => ?_)
                clear hK5 K5
                refine wpAnyH_take (i := 8) (v := .tuple #[.slice A5 m c5, .int .i64 (wrA (rgs gs) x.s.region x.s.page (pgB x.s)).2]) rfl (by kernel_rfl) (by kernel_rfl) (by kernel_rfl) (fun _ _ _ h => h) (Or.inl ⟨by rfl, ?_⟩) hS5 ?_
                · rintro w6 ⟨s0, s1, s2, s3, s4, s5⟩
                  go_simp
                simp only [Act.put, List.setIfInBounds_toArray, List.set_cons_zero, List.set_cons_succ, List.getElem_toArray, List.getElem_cons_zero, List.getElem_cons_succ]
                refine wpAnyH_take (i := 9) (v := .slice A5 m c5) rfl (by kernel_rfl) (by kernel_rfl) (by kernel_rfl) (fun _ _ _ h => h) (Or.inl ⟨by rfl, ?_⟩) hS5 ?_
                · rintro w6 ⟨s0, s1, s2, s3, s4, s5⟩
                  go_simp
                simp only [Act.put, List.setIfInBounds_toArray, List.set_cons_zero, List.set_cons_succ, List.getElem_toArray, List.getElem_cons_zero, List.getElem_cons_succ]
                refine wpAnyH_take (i := 10) (v := .int .i64 (wrA (rgs gs) x.s.region x.s.page (pgB x.s)).2) rfl (by kernel_rfl) (by kernel_rfl) (by kernel_rfl) (fun _ _ _ h => h) (Or.inl ⟨by rfl, ?_⟩) hS5 ?_
                · rintro w6 ⟨s0, s1, s2, s3, s4, s5⟩
                  go_simp
                simp only [Act.put, List.setIfInBounds_toArray, List.set_cons_zero, List.set_cons_succ, List.getElem_toArray, List.getElem_cons_zero, List.getElem_cons_succ]
                refine wpAnyH_take (i := 11) (v := .slice A5 m c5) rfl (by kernel_rfl) (by kernel_rfl) (by kernel_rfl) (fun _ _ _ h => h) (Or.inl ⟨by rfl, ?_⟩) hS5 ?_
                · rintro w6 ⟨s0, s1, s2, s3, s4, s5⟩
                  go_simp
                simp only [Act.put, List.setIfInBounds_toArray, List.set_cons_zero, List.set_cons_succ, List.getElem_toArray, List.getElem_cons_zero, List.getElem_cons_succ]
                refine wpAnyH_take (i := 12) (v := .int .i64 (wrA (rgs gs) x.s.region x.s.page (pgB x.s)).2) rfl (by kernel_rfl) (by kernel_rfl) (by kernel_rfl) (fun _ _ _ h => h) (Or.inl ⟨by rfl, ?_⟩) hS5 ?_
                · rintro w6 ⟨s0, s1, s2, s3, s4, s5⟩
                  go_simp
                simp only [Act.put, List.setIfInBounds_toArray, List.set_cons_zero, List.set_cons_succ, List.getElem_toArray, List.getElem_cons_zero, List.getElem_cons_succ]
                refine wpAnyH_done (by kernel_rfl) ?_ _
                refine hKB _ _ ?_
                go_wp2
                have HZX : Hid (Dz w w5 T3 0 D DA (k + 1) (rgs gs5)) := Lib.hid (by rw [R5.out]; exact Z5.out)
                have HSX : Hid (szs (rgs gs5) = ls.map Int.toNat) := Lib.hid (by rw [R5.out, szs_wr]; exact HSZ.out)
                go_loopw [20] (fun q wr => ∃ p : Nat, p ≤ m ∧ q = .int .i64 (p : Int) ∧ Dz w wr T3 0 D DA (k + 1) (rgs gs5) ∧ GA wr T3 A5 m c5 gs5) (fun q _ => m - (intOf q).toNat)
                case atStart => exact ⟨0, Nat.zero_le _, rfl, HZX.out, G5.out⟩
                case round =>
                  obtain ⟨p, hp0, rfl, hz, hg⟩ := hrel
                  have HZ2 := Lib.hid hz
                  have HG2 := Lib.hid hg
                  clear hz hg
                  by_cases hp : p < m
                  · obtain ⟨gb, gO, sb, so, dn, lA, lc, ln, lz, sz, rfl, rfl, d1, d3, ds, HDN, HLO, HPG, HLE, HLL⟩ := tail_facts HZ2.out HG2.out HI.out HNB.out HSX.out hp (by omega)
                    have p1 : (p : Int) < (m : Int) := by omega
                    have p2 : (0 : Int) ≤ (p : Int) := by omega
                    have hS : (fun w' : World => w'.cell? ⟨gb, gO + p * 4 + 3, none⟩ = some (.bool dn) ∧ w'.cell? ⟨gb, gO + p * 4 + 1, none⟩ = some (.slice lA ln lc) ∧ w'.cell? ⟨sb, so + p, none⟩ = some (.int .i64 sz)) wr.drew := ⟨d3, d1, ds⟩
                    go_wp2
                    rename_i K hK
                    refine wp_held (fun w' : World => w'.cell? ⟨gb, gO + p * 4 + 3, none⟩ = some (.bool dn) ∧ w'.cell? ⟨gb, gO + p * 4 + 1, none⟩ = some (.slice lA ln lc) ∧ w'.cell? ⟨sb, so + p, none⟩ = some (.int .i64 sz)) K hmx ?_ (fun _ _ h => h)
                    refine wpAnyH_take (i := 0) (v := .pointer (some ⟨D, 0, none⟩)) rfl (by kernel_rfl) (by kernel_rfl) (by kernel_rfl) (fun _ _ _ h => h) (Or.inl ⟨by rfl, ?_⟩) hS ?_
                    · rintro w6 ⟨s1, s2, s3⟩
                      go_simp
                    simp only [Act.put, List.setIfInBounds_toArray, List.set_cons_zero, List.set_cons_succ, List.getElem_toArray, List.getElem_cons_zero]
                    refine wpAnyH_take (i := 1) (v := .int .i64 (p : Int)) rfl (by kernel_rfl) (by kernel_rfl) (by kernel_rfl) (fun _ _ _ h => h) (Or.inl ⟨by rfl, ?_⟩) hS ?_
                    · rintro w6 ⟨s1, s2, s3⟩
                      go_simp
                    simp only [Act.put, List.setIfInBounds_toArray, List.set_cons_zero, List.set_cons_succ, List.getElem_toArray, List.getElem_cons_zero, List.getElem_cons_succ]
                    refine wpAnyH_take (i := 3) (v := .slice (some ⟨gb, gO, none⟩) m c5) rfl (by kernel_rfl) (by kernel_rfl) (by kernel_rfl) (fun _ _ _ h => h) (Or.inl ⟨by rfl, ?_⟩) hS ?_
                    · rintro w6 ⟨s1, s2, s3⟩
                      go_simp
                    simp only [Act.put, List.setIfInBounds_toArray, List.set_cons_zero, List.set_cons_succ, List.getElem_toArray, List.getElem_cons_zero, List.getElem_cons_succ]
                    refine wpAnyH_take (i := 4) (v := .int .i64 (p : Int)) rfl (by kernel_rfl) (by kernel_rfl) (by kernel_rfl) (fun _ _ _ h => h) (Or.inl ⟨by rfl, ?_⟩) hS ?_
                    · rintro w6 ⟨s1, s2, s3⟩
                      go_simp
                    simp only [Act.put, List.setIfInBounds_toArray, List.set_cons_zero, List.set_cons_succ, List.getElem_toArray, List.getElem_cons_zero, List.getElem_cons_succ]
                    refine wpAnyH_take (i := 5) (v := .pointer (some ⟨gb, gO + p * 4, none⟩)) rfl (by kernel_rfl) (by kernel_rfl) (by kernel_rfl) (fun _ _ _ h => h) (Or.inl ⟨by rfl, ?_⟩) hS ?_
                    · rintro w6 ⟨s1, s2, s3⟩
                      go_simp
                    simp only [Act.put, List.setIfInBounds_toArray, List.set_cons_zero, List.set_cons_succ, List.getElem_toArray, List.getElem_cons_zero, List.getElem_cons_succ]
                    refine wpAnyH_take (i := 6) (v := .pointer (some ⟨gb, gO + p * 4 + 3, none⟩)) rfl (by kernel_rfl) (by kernel_rfl) (by kernel_rfl) (fun _ _ _ h => h) (Or.inl ⟨by rfl, ?_⟩) hS ?_
                    · rintro w6 ⟨s1, s2, s3⟩
                      go_simp
                    simp only [Act.put, List.setIfInBounds_toArray, List.set_cons_zero, List.set_cons_succ, List.getElem_toArray, List.getElem_cons_zero, List.getElem_cons_succ]
                    refine wpAnyH_take (i := 7) (v := .bool dn) rfl (by kernel_rfl) (by kernel_rfl) (by kernel_rfl) (fun _ _ _ h => h) (Or.inl ⟨by rfl, ?_⟩) hS ?_
                    · rintro w6 ⟨s1, s2, s3⟩
                      go_simp
                    simp only [Act.put, List.setIfInBounds_toArray, List.set_cons_zero, List.set_cons_succ, List.getElem_toArray, List.getElem_cons_zero, List.getElem_cons_succ]
                    refine wpAnyH_ready (rs := [2]) (by kernel_rfl) (by simp) ?_
                    refine AllReadyH.cons rfl (fun K5 hK5 => ?_) AllReadyH.nil
                    go_simp
                    go_at_call 23
                    (with_reducible refine (HDN.out _ HZ2.out.drew).mono ?_)
                    rintro e w5 ⟨rfl, rfl⟩
                    refine hK5.out _ _ hS (fun _ => ?_)
                    clear hK5 K5
                    refine wpAnyH_take (i := 8) (v := .bool false) rfl (by kernel_rfl) (by kernel_rfl) (by kernel_rfl) (fun _ _ _ h => h) (Or.inl ⟨by rfl, ?_⟩) hS ?_
                    · rintro w6 ⟨s1, s2, s3⟩
                      go_simp
                    simp only [Act.put, List.setIfInBounds_toArray, List.set_cons_zero, List.set_cons_succ, List.getElem_toArray, List.getElem_cons_zero, List.getElem_cons_succ]
                    refine wpAnyH_take (i := 9) (v := .bool false) rfl (by kernel_rfl) (by kernel_rfl) (by kernel_rfl) (fun _ _ _ h => h) (Or.inl ⟨by rfl, ?_⟩) hS ?_
                    · rintro w6 ⟨s1, s2, s3⟩
                      go_simp
                    simp only [Act.put, List.setIfInBounds_toArray, List.set_cons_zero, List.set_cons_succ, List.getElem_toArray, List.getElem_cons_zero, List.getElem_cons_succ]
                    refine wpAnyH_take (i := 10) (v := .pointer (some ⟨D, 0, none⟩)) rfl (by kernel_rfl) (by kernel_rfl) (by kernel_rfl) (fun _ _ _ h => h) (Or.inl ⟨by rfl, ?_⟩) hS ?_
                    · rintro w6 ⟨s1, s2, s3⟩
                      go_simp
                    simp only [Act.put, List.setIfInBounds_toArray, List.set_cons_zero, List.set_cons_succ, List.getElem_toArray, List.getElem_cons_zero, List.getElem_cons_succ]
                    refine wpAnyH_take (i := 11) (v := .int .i64 (p : Int)) rfl (by kernel_rfl) (by kernel_rfl) (by kernel_rfl) (fun _ _ _ h => h) (Or.inl ⟨by rfl, ?_⟩) hS ?_
                    · rintro w6 ⟨s1, s2, s3⟩
                      go_simp
                    simp only [Act.put, List.setIfInBounds_toArray, List.set_cons_zero, List.set_cons_succ, List.getElem_toArray, List.getElem_cons_zero, List.getElem_cons_succ]
                    refine wpAnyH_take (i := 13) (v := .slice (some ⟨gb, gO, none⟩) m c5) rfl (by kernel_rfl) (by kernel_rfl) (by kernel_rfl) (fun _ _ _ h => h) (Or.inl ⟨by rfl, ?_⟩) hS ?_
                    · rintro w6 ⟨s1, s2, s3⟩
                      go_simp
                    simp only [Act.put, List.setIfInBounds_toArray, List.set_cons_zero, List.set_cons_succ, List.getElem_toArray, List.getElem_cons_zero, List.getElem_cons_succ]
                    refine wpAnyH_take (i := 14) (v := .int .i64 (p : Int)) rfl (by kernel_rfl) (by kernel_rfl) (by kernel_rfl) (fun _ _ _ h => h) (Or.inl ⟨by rfl, ?_⟩) hS ?_
                    · rintro w6 ⟨s1, s2, s3⟩
                      go_simp
                    simp only [Act.put, List.setIfInBounds_toArray, List.set_cons_zero, List.set_cons_succ, List.getElem_toArray, List.getElem_cons_zero, List.getElem_cons_succ]
                    refine wpAnyH_take (i := 15) (v := .pointer (some ⟨gb, gO + p * 4, none⟩)) rfl (by kernel_rfl) (by kernel_rfl) (by kernel_rfl) (fun _ _ _ h => h) (Or.inl ⟨by rfl, ?_⟩) hS ?_
                    · rintro w6 ⟨s1, s2, s3⟩
                      go_simp
                    simp only [Act.put, List.setIfInBounds_toArray, List.set_cons_zero, List.set_cons_succ, List.getElem_toArray, List.getElem_cons_zero, List.getElem_cons_succ]
                    refine wpAnyH_take (i := 16) (v := .pointer (some ⟨gb, gO + p * 4 + 1, none⟩)) rfl (by kernel_rfl) (by kernel_rfl) (by kernel_rfl) (fun _ _ _ h => h) (Or.inl ⟨by rfl, ?_⟩) hS ?_
                    · rintro w6 ⟨s1, s2, s3⟩
                      go_simp
                    simp only [Act.put, List.setIfInBounds_toArray, List.set_cons_zero, List.set_cons_succ, List.getElem_toArray, List.getElem_cons_zero, List.getElem_cons_succ]
                    refine wpAnyH_take (i := 17) (v := .slice lA ln lc) rfl (by kernel_rfl) (by kernel_rfl) (by kernel_rfl) (fun _ _ _ h => h) (Or.inl ⟨by rfl, ?_⟩) hS ?_
                    · rintro w6 ⟨s1, s2, s3⟩
                      go_simp
                    simp only [Act.put, List.setIfInBounds_toArray, List.set_cons_zero, List.set_cons_succ, List.getElem_toArray, List.getElem_cons_zero, List.getElem_cons_succ]
                    refine wpAnyH_ready (rs := [12]) (by kernel_rfl) (by simp) ?_
                    refine AllReadyH.cons rfl (fun K5 hK5 => ?_) AllReadyH.nil
                    go_simp
                    go_at_call 25
                    (with_reducible refine (HLO.out _ HZ2.out.drew).mono ?_)
                    rintro e w5 ⟨vl, rfl, h1, h2⟩
                    have RA := Lib.hid (reads_ownv h1)
                    obtain ⟨A5, c5, rfl⟩ := own_slw h1
                    have Z5 := Lib.hid (HZ2.out.drew.below h2)
                    have B5 := Lib.hid (below_step (Below.refl _ wr).drew h2)
                    have G5 := Lib.hid (HG2.out.below B5.out)
                    have hS1 : (fun w' : World => w'.cell? ⟨gb, gO + p * 4 + 3, none⟩ = some (.bool dn) ∧ w'.cell? ⟨gb, gO + p * 4 + 1, none⟩ = some (.slice lA ln lc) ∧ w'.cell? ⟨sb, so + p, none⟩ = some (.int .i64 sz)) w5 := ⟨cellB d3 B5.out, cellB d1 B5.out, cellB ds B5.out⟩
                    clear h1 h2
                    refine hK5.out _ _ hS1 (fun _ => ?_)
                    clear hK5 K5
                    refine wpAnyH_ready (rs := [18]) (by kernel_rfl) (by simp) ?_
                    refine AllReadyH.cons rfl (fun K5 hK5 => ?_) AllReadyH.nil
                    go_simp
                    go_at_call 26
                    (with_reducible refine (HPG.out _ B5.out).mono ?_)
                    rintro e w6 ⟨vl, rfl, h1, h2⟩
                    have RB := Lib.hid (reads_ownv h1)
                    obtain ⟨A6, c6, rfl⟩ := own_slw h1
                    have RA2 := Lib.hid ((RA.out _ _ rfl).keep_ h2)
                    have Z6 := Lib.hid (Z5.out.below h2)
                    have B6 := Lib.hid (below_step B5.out h2)
                    have hS2 : (fun w' : World => w'.cell? ⟨gb, gO + p * 4 + 3, none⟩ = some (.bool dn) ∧ w'.cell? ⟨gb, gO + p * 4 + 1, none⟩ = some (.slice lA ln lc) ∧ w'.cell? ⟨sb, so + p, none⟩ = some (.int .i64 sz)) w6 := ⟨cellB d3 B6.out, cellB d1 B6.out, cellB ds B6.out⟩
                    clear h1 h2
                    refine hK5.out _ _ hS2 (fun _ => ?_)
                    clear hK5 K5
                    refine wpAnyH_ready (rs := [19]) (by kernel_rfl) (by simp) ?_
                    refine AllReadyH.cons rfl (fun K5 hK5 => ?_) AllReadyH.nil
                    go_simp
                    go_at_call 24
                    (with_reducible refine (r3Ints_z lz _ _ _ _ _ w6 rfl RA2.out (RB.out _ _ rfl) HLL.out).mono ?_)
                    rintro e w7 ⟨rfl, h1⟩
                    have Z7 := Lib.hid (Z6.out.below h1)
                    have B7 := Lib.hid (below_step B6.out h1)
                    have G7 := Lib.hid (HG2.out.below B7.out)
                    have hS3 : (fun w' : World => w'.cell? ⟨gb, gO + p * 4 + 3, none⟩ = some (.bool dn) ∧ w'.cell? ⟨gb, gO + p * 4 + 1, none⟩ = some (.slice lA ln lc) ∧ w'.cell? ⟨sb, so + p, none⟩ = some (.int .i64 sz)) w7 := ⟨cellB d3 B7.out, cellB d1 B7.out, cellB ds B7.out⟩
                    clear h1
                    refine hK5.out _ _ hS3 (fun _ => ?_)
                    clear hK5 K5
                    refine wpAnyH_take (i := 20) (v := .bool false) rfl (by kernel_rfl) (by kernel_rfl) (by kernel_rfl) (fun _ _ _ h => h) (Or.inl ⟨by rfl, ?_⟩) hS3 ?_
                    · rintro w6 ⟨s1, s2, s3⟩
                      go_simp
                    simp only [Act.put, List.setIfInBounds_toArray, List.set_cons_zero, List.set_cons_succ, List.getElem_toArray, List.getElem_cons_zero, List.getElem_cons_succ]
                    refine wpAnyH_take (i := 21) (v := .bool false) rfl (by kernel_rfl) (by kernel_rfl) (by kernel_rfl) (fun _ _ _ h => h) (Or.inl ⟨by rfl, ?_⟩) hS3 ?_
                    · rintro w6 ⟨s1, s2, s3⟩
                      go_simp
                    simp only [Act.put, List.setIfInBounds_toArray, List.set_cons_zero, List.set_cons_succ, List.getElem_toArray, List.getElem_cons_zero, List.getElem_cons_succ]
                    refine wpAnyH_take (i := 22) (v := .bool false) rfl (by kernel_rfl) (by kernel_rfl) (by kernel_rfl) (fun _ _ _ h => h) (Or.inl ⟨by rfl, ?_⟩) hS3 ?_
                    · rintro w6 ⟨s1, s2, s3⟩
                      go_simp
                    simp only [Act.put, List.setIfInBounds_toArray, List.set_cons_zero, List.set_cons_succ, List.getElem_toArray, List.getElem_cons_zero, List.getElem_cons_succ]
                    refine wpAnyH_take (i := 23) (v := .pointer (some ⟨D, 0, none⟩)) rfl (by kernel_rfl) (by kernel_rfl) (by kernel_rfl) (fun _ _ _ h => h) (Or.inl ⟨by rfl, ?_⟩) hS3 ?_
                    · rintro w6 ⟨s1, s2, s3⟩
                      go_simp
                    simp only [Act.put, List.setIfInBounds_toArray, List.set_cons_zero, List.set_cons_succ, List.getElem_toArray, List.getElem_cons_zero, List.getElem_cons_succ]
                    refine wpAnyH_take (i := 24) (v := .int .i64 (p : Int)) rfl (by kernel_rfl) (by kernel_rfl) (by kernel_rfl) (fun _ _ _ h => h) (Or.inl ⟨by rfl, ?_⟩) hS3 ?_
                    · rintro w6 ⟨s1, s2, s3⟩
                      go_simp
                    simp only [Act.put, List.setIfInBounds_toArray, List.set_cons_zero, List.set_cons_succ, List.getElem_toArray, List.getElem_cons_zero, List.getElem_cons_succ]
                    refine wpAnyH_take (i := 26) (v := .slice (some ⟨sb, so, none⟩) m c0) rfl (by kernel_rfl) (by kernel_rfl) (by kernel_rfl) (fun _ _ _ h => h) (Or.inl ⟨by rfl, ?_⟩) hS3 ?_
                    · rintro w6 ⟨s1, s2, s3⟩
                      go_simp
                    simp only [Act.put, List.setIfInBounds_toArray, List.set_cons_zero, List.set_cons_succ, List.getElem_toArray, List.getElem_cons_zero, List.getElem_cons_succ]
                    refine wpAnyH_take (i := 27) (v := .int .i64 (p : Int)) rfl (by kernel_rfl) (by kernel_rfl) (by kernel_rfl) (fun _ _ _ h => h) (Or.inl ⟨by rfl, ?_⟩) hS3 ?_
                    · rintro w6 ⟨s1, s2, s3⟩
                      go_simp
                    simp only [Act.put, List.setIfInBounds_toArray, List.set_cons_zero, List.set_cons_succ, List.getElem_toArray, List.getElem_cons_zero, List.getElem_cons_succ]
                    refine wpAnyH_take (i := 28) (v := .pointer (some ⟨sb, so + p, none⟩)) rfl (by kernel_rfl) (by kernel_rfl) (by kernel_rfl) (fun _ _ _ h => h) (Or.inl ⟨by rfl, ?_⟩) hS3 ?_
                    · rintro w6 ⟨s1, s2, s3⟩
                      go_simp
                    simp only [Act.put, List.setIfInBounds_toArray, List.set_cons_zero, List.set_cons_succ, List.getElem_toArray, List.getElem_cons_zero, List.getElem_cons_succ]
                    refine wpAnyH_take (i := 29) (v := .int .i64 sz) rfl (by kernel_rfl) (by kernel_rfl) (by kernel_rfl) (fun _ _ _ h => h) (Or.inl ⟨by rfl, ?_⟩) hS3 ?_
                    · rintro w6 ⟨s1, s2, s3⟩
                      go_simp
                    simp only [Act.put, List.setIfInBounds_toArray, List.set_cons_zero, List.set_cons_succ, List.getElem_toArray, List.getElem_cons_zero, List.getElem_cons_succ]
                    refine wpAnyH_ready (rs := [25]) (by kernel_rfl) (by simp) ?_
                    refine AllReadyH.cons rfl (fun K5 hK5 => ?_) AllReadyH.nil
                    go_simp
                    go_at_call 27
                    (with_reducible refine (HLE.out _ Z7.out).mono ?_)
                    rintro e w8 ⟨rfl, rfl⟩
                    refine hK5.out _ _ hS3 (fun _ => ?_)
                    clear hK5 K5
                    refine wpAnyH_take (i := 30) (v := .bool false) rfl (by kernel_rfl) (by kernel_rfl) (by kernel_rfl) (fun _ _ _ h => h) (Or.inl ⟨by rfl, ?_⟩) hS3 ?_
                    · rintro w6 ⟨s1, s2, s3⟩
                      go_simp
                    simp only [Act.put, List.setIfInBounds_toArray, List.set_cons_zero, List.set_cons_succ, List.getElem_toArray, List.getElem_cons_zero, List.getElem_cons_succ]
                    refine wpAnyH_take (i := 31) (v := .bool false) rfl (by kernel_rfl) (by kernel_rfl) (by kernel_rfl) (fun _ _ _ h => h) (Or.inl ⟨by rfl, ?_⟩) hS3 ?_
                    · rintro w6 ⟨s1, s2, s3⟩
                      go_simp
                    simp only [Act.put, List.setIfInBounds_toArray, List.set_cons_zero, List.set_cons_succ, List.getElem_toArray, List.getElem_cons_zero, List.getElem_cons_succ]
                    refine wpAnyH_done (by kernel_rfl) ?_ _
                    refine hK _ _ ?_
                    go_wp2
                    go_roundw
                    case rel => exact ⟨p + 1, by omega, by go_num, Z7.out, G7.out⟩
                    case measure => simp [intOf]; omega
                  · obtain rfl : p = m := by omega
                    go_wp2
                    go_roundw
                    case rel => exact ⟨k + 1, gs5, T3, A5, c5, by omega, by go_num, rfl, HZ2.out, HG2.out, HSX.out⟩
                    case measure => simp [intOf]; omega
            · have e0 : (x.s.kind == 0) = false := by simpa using k0
              clear k0
              by_cases k1 : x.s.kind = 1
              · have e1 : (x.s.kind == 1) = true := by simpa using k1
                clear k1
                as_aux_lemma =>
                  go_wp2_with (first
                    | (go_at_call 15; (with_reducible refine (Sync_z x.s.region Z1.out (by omega)).mono ?_); rintro e w3 ⟨rfl, T3, h1, h2⟩; have Z3 := Lib.hid h1; have G3 := Lib.hid (G1.out.tn h2); clear h1 h2)
                    | (go_at_call 16; (with_reducible refine (r6Sync_any x.s.region G3.out HGL.out HM.out (fun g hg => Z3.out.lo.un hg)).mono ?_); rintro e w5 ⟨A5, c5, gs5, rfl, h1, h2, h3⟩; have G5 := Lib.hid h1; have R5 := Lib.hid h2; have Z5 := Lib.hid (Z3.out.below h3); clear h1 h2 h3))
                  have HZX : Hid (Dz w w5 T3 0 D DA (k + 1) (rgs gs5)) := Lib.hid (by rw [R5.out]; exact Z5.out.more (Nat.le_succ k))
                  have HSX : Hid (szs (rgs gs5) = ls.map Int.toNat) := Lib.hid (by rw [R5.out, szs_sy]; exact HSZ.out)
                  go_loopw [20] (fun q wr => ∃ p : Nat, p ≤ m ∧ q = .int .i64 (p : Int) ∧ Dz w wr T3 0 D DA (k + 1) (rgs gs5) ∧ GA wr T3 A5 m c5 gs5) (fun q _ => m - (intOf q).toNat)
                  case atStart => exact ⟨0, Nat.zero_le _, rfl, HZX.out, G5.out⟩
                  case round =>
                    obtain ⟨p, hp0, rfl, hz, hg⟩ := hrel
                    have HZ2 := Lib.hid hz
                    have HG2 := Lib.hid hg
                    clear hz hg
                    by_cases hp : p < m
                    · obtain ⟨gb, gO, sb, so, dn, lA, lc, ln, lz, sz, rfl, rfl, d1, d3, ds, HDN, HLO, HPG, HLE, HLL⟩ := tail_facts HZ2.out HG2.out HI.out HNB.out HSX.out hp (by omega)
                      have p1 : (p : Int) < (m : Int) := by omega
                      have p2 : (0 : Int) ≤ (p : Int) := by omega
                      have hS : (fun w' : World => w'.cell? ⟨gb, gO + p * 4 + 3, none⟩ = some (.bool dn) ∧ w'.cell? ⟨gb, gO + p * 4 + 1, none⟩ = some (.slice lA ln lc) ∧ w'.cell? ⟨sb, so + p, none⟩ = some (.int .i64 sz)) wr.drew := ⟨d3, d1, ds⟩
                      go_wp2
                      rename_i K hK
                      refine wp_held (fun w' : World => w'.cell? ⟨gb, gO + p * 4 + 3, none⟩ = some (.bool dn) ∧ w'.cell? ⟨gb, gO + p * 4 + 1, none⟩ = some (.slice lA ln lc) ∧ w'.cell? ⟨sb, so + p, none⟩ = some (.int .i64 sz)) K hmx ?_ (fun _ _ h => h)
                      refine wpAnyH_take (i := 0) (v := .pointer (some ⟨D, 0, none⟩)) rfl (by kernel_rfl) (by kernel_rfl) (by kernel_rfl) (fun _ _ _ h => h) (Or.inl ⟨by rfl, ?_⟩) hS ?_
                      · rintro w6 ⟨s1, s2, s3⟩
                        go_simp
                      simp only [Act.put, List.setIfInBounds_toArray, List.set_cons_zero, List.set_cons_succ, List.getElem_toArray, List.getElem_cons_zero]
                      refine wpAnyH_take (i := 1) (v := .int .i64 (p : Int)) rfl (by kernel_rfl) (by kernel_rfl) (by kernel_rfl) (fun _ _ _ h => h) (Or.inl ⟨by rfl, ?_⟩) hS ?_
                      · rintro w6 ⟨s1, s2, s3⟩
                        go_simp
                      simp only [Act.put, List.setIfInBounds_toArray, List.set_cons_zero, List.set_cons_succ, List.getElem_toArray, List.getElem_cons_zero, List.getElem_cons_succ]
                      refine wpAnyH_take (i := 3) (v := .slice (some ⟨gb, gO, none⟩) m c5) rfl (by kernel_rfl) (by kernel_rfl) (by kernel_rfl) (fun _ _ _ h => h) (Or.inl ⟨by rfl, ?_⟩) hS ?_
                      · rintro w6 ⟨s1, s2, s3⟩
                        go_simp
                      simp only [Act.put, List.setIfInBounds_toArray, List.set_cons_zero, List.set_cons_succ, List.getElem_toArray, List.getElem_cons_zero, List.getElem_cons_succ]
                      refine wpAnyH_take (i := 4) (v := .int .i64 (p : Int)) rfl (by kernel_rfl) (by kernel_rfl) (by kernel_rfl) (fun _ _ _ h => h) (Or.inl ⟨by rfl, ?_⟩) hS ?_
                      · rintro w6 ⟨s1, s2, s3⟩
                        go_simp
                      simp only [Act.put, List.setIfInBounds_toArray, List.set_cons_zero, List.set_cons_succ, List.getElem_toArray, List.getElem_cons_zero, List.getElem_cons_succ]
                      refine wpAnyH_take (i := 5) (v := .pointer (some ⟨gb, gO + p * 4, none⟩)) rfl (by kernel_rfl) (by kernel_rfl) (by kernel_rfl) (fun _ _ _ h => h) (Or.inl ⟨by rfl, ?_⟩) hS ?_
                      · rintro w6 ⟨s1, s2, s3⟩
                        go_simp
                      simp only [Act.put, List.setIfInBounds_toArray, List.set_cons_zero, List.set_cons_succ, List.getElem_toArray, List.getElem_cons_zero, List.getElem_cons_succ]
                      refine wpAnyH_take (i := 6) (v := .pointer (some ⟨gb, gO + p * 4 + 3, none⟩)) rfl (by kernel_rfl) (by kernel_rfl) (by kernel_rfl) (fun _ _ _ h => h) (Or.inl ⟨by rfl, ?_⟩) hS ?_
                      · rintro w6 ⟨s1, s2, s3⟩
                        go_simp
                      simp only [Act.put, List.setIfInBounds_toArray, List.set_cons_zero, List.set_cons_succ, List.getElem_toArray, List.getElem_cons_zero, List.getElem_cons_succ]
                      refine wpAnyH_take (i := 7) (v := .bool dn) rfl (by kernel_rfl) (by kernel_rfl) (by kernel_rfl) (fun _ _ _ h => h) (Or.inl ⟨by rfl, ?_⟩) hS ?_
                      · rintro w6 ⟨s1, s2, s3⟩
                        go_simp
                      simp only [Act.put, List.setIfInBounds_toArray, List.set_cons_zero, List.set_cons_succ, List.getElem_toArray, List.getElem_cons_zero, List.getElem_cons_succ]
                      refine wpAnyH_ready (rs := [2]) (by kernel_rfl) (by simp) ?_
                      refine AllReadyH.cons rfl (fun K5 hK5 => ?_) AllReadyH.nil
                      go_simp
                      go_at_call 23
                      (with_reducible refine (HDN.out _ HZ2.out.drew).mono ?_)
                      rintro e w5 ⟨rfl, rfl⟩
                      refine hK5.out _ _ hS (fun _ => ?_)
                      clear hK5 K5
                      refine wpAnyH_take (i := 8) (v := .bool false) rfl (by kernel_rfl) (by kernel_rfl) (by kernel_rfl) (fun _ _ _ h => h) (Or.inl ⟨by rfl, ?_⟩) hS ?_
                      · rintro w6 ⟨s1, s2, s3⟩
                        go_simp
                      simp only [Act.put, List.setIfInBounds_toArray, List.set_cons_zero, List.set_cons_succ, List.getElem_toArray, List.getElem_cons_zero, List.getElem_cons_succ]
                      refine wpAnyH_take (i := 9) (v := .bool false) rfl (by kernel_rfl) (by kernel_rfl) (by kernel_rfl) (fun _ _ _ h => h) (Or.inl ⟨by rfl, ?_⟩) hS ?_
                      · rintro w6 ⟨s1, s2, s3⟩
                        go_simp
                      simp only [Act.put, List.setIfInBounds_toArray, List.set_cons_zero, List.set_cons_succ, List.getElem_toArray, List.getElem_cons_zero, List.getElem_cons_succ]
                      refine wpAnyH_take (i := 10) (v := .pointer (some ⟨D, 0, none⟩)) rfl (by kernel_rfl) (by kernel_rfl) (by kernel_rfl) (fun _ _ _ h => h) (Or.inl ⟨by rfl, ?_⟩) hS ?_
                      · rintro w6 ⟨s1, s2, s3⟩
                        go_simp
                      simp only [Act.put, List.setIfInBounds_toArray, List.set_cons_zero, List.set_cons_succ, List.getElem_toArray, List.getElem_cons_zero, List.getElem_cons_succ]
                      refine wpAnyH_take (i := 11) (v := .int .i64 (p : Int)) rfl (by kernel_rfl) (by kernel_rfl) (by kernel_rfl) (fun _ _ _ h => h) (Or.inl ⟨by rfl, ?_⟩) hS ?_
                      · rintro w6 ⟨s1, s2, s3⟩
                        go_simp
                      simp only [Act.put, List.setIfInBounds_toArray, List.set_cons_zero, List.set_cons_succ, List.getElem_toArray, List.getElem_cons_zero, List.getElem_cons_succ]
                      refine wpAnyH_take (i := 13) (v := .slice (some ⟨gb, gO, none⟩) m c5) rfl (by kernel_rfl) (by kernel_rfl) (by kernel_rfl) (fun _ _ _ h => h) (Or.inl ⟨by rfl, ?_⟩) hS ?_
                      · rintro w6 ⟨s1, s2, s3⟩
                        go_simp
                      simp only [Act.put, List.setIfInBounds_toArray, List.set_cons_zero, List.set_cons_succ, List.getElem_toArray, List.getElem_cons_zero, List.getElem_cons_succ]
                      refine wpAnyH_take (i := 14) (v := .int .i64 (p : Int)) rfl (by kernel_rfl) (by kernel_rfl) (by kernel_rfl) (fun _ _ _ h => h) (Or.inl ⟨by rfl, ?_⟩) hS ?_
                      · rintro w6 ⟨s1, s2, s3⟩
                        go_simp
                      simp only [Act.put, List.setIfInBounds_toArray, List.set_cons_zero, List.set_cons_succ, List.getElem_toArray, List.getElem_cons_zero, List.getElem_cons_succ]
                      refine wpAnyH_take (i := 15) (v := .pointer (some ⟨gb, gO + p * 4, none⟩)) rfl (by kernel_rfl) (by kernel_rfl) (by kernel_rfl) (fun _ _ _ h => h) (Or.inl ⟨by rfl, ?_⟩) hS ?_
                      · rintro w6 ⟨s1, s2, s3⟩
                        go_simp
                      simp only [Act.put, List.setIfInBounds_toArray, List.set_cons_zero, List.set_cons_succ, List.getElem_toArray, List.getElem_cons_zero, List.getElem_cons_succ]
                      refine wpAnyH_take (i := 16) (v := .pointer (some ⟨gb, gO + p * 4 + 1, none⟩)) rfl (by kernel_rfl) (by kernel_rfl) (by kernel_rfl) (fun _ _ _ h => h) (Or.inl ⟨by rfl, ?_⟩) hS ?_
                      · rintro w6 ⟨s1, s2, s3⟩
                        go_simp
                      simp only [Act.put, List.setIfInBounds_toArray, List.set_cons_zero, List.set_cons_succ, List.getElem_toArray, List.getElem_cons_zero, List.getElem_cons_succ]
                      refine wpAnyH_take (i := 17) (v := .slice lA ln lc) rfl (by kernel_rfl) (by kernel_rfl) (by kernel_rfl) (fun _ _ _ h => h) (Or.inl ⟨by rfl, ?_⟩) hS ?_
                      · rintro w6 ⟨s1, s2, s3⟩
                        go_simp
                      simp only [Act.put, List.setIfInBounds_toArray, List.set_cons_zero, List.set_cons_succ, List.getElem_toArray, List.getElem_cons_zero, List.getElem_cons_succ]
                      refine wpAnyH_ready (rs := [12]) (by kernel_rfl) (by simp) ?_
                      refine AllReadyH.cons rfl (fun K5 hK5 => ?_) AllReadyH.nil
                      go_simp
                      go_at_call 25
                      (with_reducible refine (HLO.out _ HZ2.out.drew).mono ?_)
                      rintro e w5 ⟨vl, rfl, h1, h2⟩
                      have RA := Lib.hid (reads_ownv h1)
                      obtain ⟨A5, c5, rfl⟩ := own_slw h1
                      have Z5 := Lib.hid (HZ2.out.drew.below h2)
                      have B5 := Lib.hid (below_step (Below.refl _ wr).drew h2)
                      have G5 := Lib.hid (HG2.out.below B5.out)
                      have hS1 : (fun w' : World => w'.cell? ⟨gb, gO + p * 4 + 3, none⟩ = some (.bool dn) ∧ w'.cell? ⟨gb, gO + p * 4 + 1, none⟩ = some (.slice lA ln lc) ∧ w'.cell? ⟨sb, so + p, none⟩ = some (.int .i64 sz)) w5 := ⟨cellB d3 B5.out, cellB d1 B5.out, cellB ds B5.out⟩
                      clear h1 h2
                      refine hK5.out _ _ hS1 (fun _ => ?_)
                      clear hK5 K5
                      refine wpAnyH_ready (rs := [18]) (by kernel_rfl) (by simp) ?_
                      refine AllReadyH.cons rfl (fun K5 hK5 => ?_) AllReadyH.nil
                      go_simp
                      go_at_call 26
                      (with_reducible refine (HPG.out _ B5.out).mono ?_)
                      rintro e w6 ⟨vl, rfl, h1, h2⟩
                      have RB := Lib.hid (reads_ownv h1)
                      obtain ⟨A6, c6, rfl⟩ := own_slw h1
                      have RA2 := Lib.hid ((RA.out _ _ rfl).keep_ h2)
                      have Z6 := Lib.hid (Z5.out.below h2)
                      have B6 := Lib.hid (below_step B5.out h2)
                      have hS2 : (fun w' : World => w'.cell? ⟨gb, gO + p * 4 + 3, none⟩ = some (.bool dn) ∧ w'.cell? ⟨gb, gO + p * 4 + 1, none⟩ = some (.slice lA ln lc) ∧ w'.cell? ⟨sb, so + p, none⟩ = some (.int .i64 sz)) w6 := ⟨cellB d3 B6.out, cellB d1 B6.out, cellB ds B6.out⟩
                      clear h1 h2
                      refine hK5.out _ _ hS2 (fun _ => ?_)
                      clear hK5 K5
                      refine wpAnyH_ready (rs := [19]) (by kernel_rfl) (by simp) ?_
                      refine AllReadyH.cons rfl (fun K5 hK5 => ?_) AllReadyH.nil
                      go_simp
                      go_at_call 24
                      (with_reducible refine (r3Ints_z lz _ _ _ _ _ w6 rfl RA2.out (RB.out _ _ rfl) HLL.out).mono ?_)
                      rintro e w7 ⟨rfl, h1⟩
                      have Z7 := Lib.hid (Z6.out.below h1)
                      have B7 := Lib.hid (below_step B6.out h1)
                      have G7 := Lib.hid (HG2.out.below B7.out)
                      have hS3 : (fun w' : World => w'.cell? ⟨gb, gO + p * 4 + 3, none⟩ = some (.bool dn) ∧ w'.cell? ⟨gb, gO + p * 4 + 1, none⟩ = some (.slice lA ln lc) ∧ w'.cell? ⟨sb, so + p, none⟩ = some (.int .i64 sz)) w7 := ⟨cellB d3 B7.out, cellB d1 B7.out, cellB ds B7.out⟩
                      clear h1
                      refine hK5.out _ _ hS3 (fun _ => ?_)
                      clear hK5 K5
                      refine wpAnyH_take (i := 20) (v := .bool false) rfl (by kernel_rfl) (by kernel_rfl) (by kernel_rfl) (fun _ _ _ h => h) (Or.inl ⟨by rfl, ?_⟩) hS3 ?_
                      · rintro w6 ⟨s1, s2, s3⟩
                        go_simp
                      simp only [Act.put, List.setIfInBounds_toArray, List.set_cons_zero, List.set_cons_succ, List.getElem_toArray, List.getElem_cons_zero, List.getElem_cons_succ]
                      refine wpAnyH_take (i := 21) (v := .bool false) rfl (by kernel_rfl) (by kernel_rfl) (by kernel_rfl) (fun _ _ _ h => h) (Or.inl ⟨by rfl, ?_⟩) hS3 ?_
                      · rintro w6 ⟨s1, s2, s3⟩
                        go_simp
                      simp only [Act.put, List.setIfInBounds_toArray, List.set_cons_zero, List.set_cons_succ, List.getElem_toArray, List.getElem_cons_zero, List.getElem_cons_succ]
                      refine wpAnyH_take (i := 22) (v := .bool false) rfl (by kernel_rfl) (by kernel_rfl) (by kernel_rfl) (fun _ _ _ h => h) (Or.inl ⟨by rfl, ?_⟩) hS3 ?_
                      · rintro w6 ⟨s1, s2, s3⟩
                        go_simp
                      simp only [Act.put, List.setIfInBounds_toArray, List.set_cons_zero, List.set_cons_succ, List.getElem_toArray, List.getElem_cons_zero, List.getElem_cons_succ]
                      refine wpAnyH_take (i := 23) (v := .pointer (some ⟨D, 0, none⟩)) rfl (by kernel_rfl) (by kernel_rfl) (by kernel_rfl) (fun _ _ _ h => h) (Or.inl ⟨by rfl, ?_⟩) hS3 ?_
                      · rintro w6 ⟨s1, s2, s3⟩
                        go_simp
                      simp only [Act.put, List.setIfInBounds_toArray, List.set_cons_zero, List.set_cons_succ, List.getElem_toArray, List.getElem_cons_zero, List.getElem_cons_succ]
                      refine wpAnyH_take (i := 24) (v := .int .i64 (p : Int)) rfl (by kernel_rfl) (by kernel_rfl) (by kernel_rfl) (fun _ _ _ h => h) (Or.inl ⟨by rfl, ?_⟩) hS3 ?_
                      · rintro w6 ⟨s1, s2, s3⟩
                        go_simp
                      simp only [Act.put, List.setIfInBounds_toArray, List.set_cons_zero, List.set_cons_succ, List.getElem_toArray, List.getElem_cons_zero, List.getElem_cons_succ]
                      refine wpAnyH_take (i := 26) (v := .slice (some ⟨sb, so, none⟩) m c0) rfl (by kernel_rfl) (by kernel_rfl) (by kernel_rfl) (fun _ _ _ h => h) (Or.inl ⟨by rfl, ?_⟩) hS3 ?_
                      · rintro w6 ⟨s1, s2, s3⟩
                        go_simp
                      simp only [Act.put, List.setIfInBounds_toArray, List.set_cons_zero, List.set_cons_succ, List.getElem_toArray, List.getElem_cons_zero, List.getElem_cons_succ]
                      refine wpAnyH_take (i := 27) (v := .int .i64 (p : Int)) rfl (by kernel_rfl) (by kernel_rfl) (by kernel_rfl) (fun _ _ _ h => h) (Or.inl ⟨by rfl, ?_⟩) hS3 ?_
                      · rintro w6 ⟨s1, s2, s3⟩
                        go_simp
                      simp only [Act.put, List.setIfInBounds_toArray, List.set_cons_zero, List.set_cons_succ, List.getElem_toArray, List.getElem_cons_zero, List.getElem_cons_succ]
                      refine wpAnyH_take (i := 28) (v := .pointer (some ⟨sb, so + p, none⟩)) rfl (by kernel_rfl) (by kernel_rfl) (by kernel_rfl) (fun _ _ _ h => h) (Or.inl ⟨by rfl, ?_⟩) hS3 ?_
                      · rintro w6 ⟨s1, s2, s3⟩
                        go_simp
                      simp only [Act.put, List.setIfInBounds_toArray, List.set_cons_zero, List.set_cons_succ, List.getElem_toArray, List.getElem_cons_zero, List.getElem_cons_succ]
                      refine wpAnyH_take (i := 29) (v := .int .i64 sz) rfl (by kernel_rfl) (by kernel_rfl) (by kernel_rfl) (fun _ _ _ h => h) (Or.inl ⟨by rfl, ?_⟩) hS3 ?_
                      · rintro w6 ⟨s1, s2, s3⟩
                        go_simp
                      simp only [Act.put, List.setIfInBounds_toArray, List.set_cons_zero, List.set_cons_succ, List.getElem_toArray, List.getElem_cons_zero, List.getElem_cons_succ]
                      refine wpAnyH_ready (rs := [25]) (by kernel_rfl) (by simp) ?_
                      refine AllReadyH.cons rfl (fun K5 hK5 => ?_) AllReadyH.nil
                      go_simp
                      go_at_call 27
                      (with_reducible refine (HLE.out _ Z7.out).mono ?_)
                      rintro e w8 ⟨rfl, rfl⟩
                      refine hK5.out _ _ hS3 (fun _ => ?_)
                      clear hK5 K5
                      refine wpAnyH_take (i := 30) (v := .bool false) rfl (by kernel_rfl) (by kernel_rfl) (by kernel_rfl) (fun _ _ _ h => h) (Or.inl ⟨by rfl, ?_⟩) hS3 ?_
                      · rintro w6 ⟨s1, s2, s3⟩
                        go_simp
                      simp only [Act.put, List.setIfInBounds_toArray, List.set_cons_zero, List.set_cons_succ, List.getElem_toArray, List.getElem_cons_zero, List.getElem_cons_succ]
                      refine wpAnyH_take (i := 31) (v := .bool false) rfl (by kernel_rfl) (by kernel_rfl) (by kernel_rfl) (fun _ _ _ h => h) (Or.inl ⟨by rfl, ?_⟩) hS3 ?_
                      · rintro w6 ⟨s1, s2, s3⟩
                        go_simp
                      simp only [Act.put, List.setIfInBounds_toArray, List.set_cons_zero, List.set_cons_succ, List.getElem_toArray, List.getElem_cons_zero, List.getElem_cons_succ]
                      refine wpAnyH_done (by kernel_rfl) ?_ _
                      refine hK _ _ ?_
                      go_wp2
                      go_roundw
                      case rel => exact ⟨p + 1, by omega, by go_num, Z7.out, G7.out⟩
                      case measure => simp [intOf]; omega
                    · obtain rfl : p = m := by omega
                      go_wp2
                      go_roundw
                      case rel => exact ⟨k + 1, gs5, T3, A5, c5, by omega, by go_num, rfl, HZ2.out, HG2.out, HSX.out⟩
                      case measure => simp [intOf]; omega
              · have e1 : (x.s.kind == 1) = false := by simpa using k1
                clear k1
                by_cases k2 : x.s.kind = 2
                · have e2 : (x.s.kind == 2) = true := by simpa using k2
                  clear k2
                  as_aux_lemma =>
                    go_wp2_with (first
                      | (go_at_call 17; (with_reducible refine (Stop_z x.s.region x.s.page Z1.out HPA.out).mono ?_); rintro e w3 ⟨rfl, T3, h1, h2⟩; have Z3 := Lib.hid h1; have G3 := Lib.hid (G1.out.tn h2); have X3 := Lib.hid (X1.out.tn h2); have q2 := X3.out.has.cell 2; have q5 := X3.out.has.cell 5; simp only [Sx.cells, List.getElem?_toArray, List.getElem?_cons_succ, List.getElem?_cons_zero] at q2 q5; clear h1 h2)
                      | (go_at_call 18; (with_reducible refine (r6Stop_any x.s.region x.s.page G3.out HGL.out (fun g hg => Z3.out.lo.un hg) HPA.out).mono ?_); rintro e w5 ⟨A5, c5, gs5, rfl, h1, h2, h3⟩; have G5 := Lib.hid h1; have R5 := Lib.hid h2; have Z5 := Lib.hid (Z3.out.below h3); clear h1 h2 h3))
                    have HZX : Hid (Dz w w5 T3 0 D DA (k + 1) (rgs gs5)) := Lib.hid (by rw [R5.out]; exact Z5.out.more (Nat.le_succ k))
                    have HSX : Hid (szs (rgs gs5) = ls.map Int.toNat) := Lib.hid (by rw [R5.out, szs_st]; exact HSZ.out)
                    go_loopw [20] (fun q wr => ∃ p : Nat, p ≤ m ∧ q = .int .i64 (p : Int) ∧ Dz w wr T3 0 D DA (k + 1) (rgs gs5) ∧ GA wr T3 A5 m c5 gs5) (fun q _ => m - (intOf q).toNat)
                    case atStart => exact ⟨0, Nat.zero_le _, rfl, HZX.out, G5.out⟩
                    case round =>
                      obtain ⟨p, hp0, rfl, hz, hg⟩ := hrel
                      have HZ2 := Lib.hid hz
                      have HG2 := Lib.hid hg
                      clear hz hg
                      by_cases hp : p < m
                      · obtain ⟨gb, gO, sb, so, dn, lA, lc, ln, lz, sz, rfl, rfl, d1, d3, ds, HDN, HLO, HPG, HLE, HLL⟩ := tail_facts HZ2.out HG2.out HI.out HNB.out HSX.out hp (by omega)
                        have p1 : (p : Int) < (m : Int) := by omega
                        have p2 : (0 : Int) ≤ (p : Int) := by omega
                        have hS : (fun w' : World => w'.cell? ⟨gb, gO + p * 4 + 3, none⟩ = some (.bool dn) ∧ w'.cell? ⟨gb, gO + p * 4 + 1, none⟩ = some (.slice lA ln lc) ∧ w'.cell? ⟨sb, so + p, none⟩ = some (.int .i64 sz)) wr.drew := ⟨d3, d1, ds⟩
                        go_wp2
                        rename_i K hK
                        refine wp_held (fun w' : World => w'.cell? ⟨gb, gO + p * 4 + 3, none⟩ = some (.bool dn) ∧ w'.cell? ⟨gb, gO + p * 4 + 1, none⟩ = some (.slice lA ln lc) ∧ w'.cell? ⟨sb, so + p, none⟩ = some (.int .i64 sz)) K hmx ?_ (fun _ _ h => h)
                        refine wpAnyH_take (i := 0) (v := .pointer (some ⟨D, 0, none⟩)) rfl (by kernel_rfl) (by kernel_rfl) (by kernel_rfl) (fun _ _ _ h => h) (Or.inl ⟨by rfl, ?_⟩) hS ?_
                        · rintro w6 ⟨s1, s2, s3⟩
                          go_simp
                        simp only [Act.put, List.setIfInBounds_toArray, List.set_cons_zero, List.set_cons_succ, List.getElem_toArray, List.getElem_cons_zero]
                        refine wpAnyH_take (i := 1) (v := .int .i64 (p : Int)) rfl (by kernel_rfl) (by kernel_rfl) (by kernel_rfl) (fun _ _ _ h => h) (Or.inl ⟨by rfl, ?_⟩) hS ?_
                        · rintro w6 ⟨s1, s2, s3⟩
                          go_simp
                        simp only [Act.put, List.setIfInBounds_toArray, List.set_cons_zero, List.set_cons_succ, List.getElem_toArray, List.getElem_cons_zero, List.getElem_cons_succ]
                        refine wpAnyH_take (i := 3) (v := .slice (some ⟨gb, gO, none⟩) m c5) rfl (by kernel_rfl) (by kernel_rfl) (by kernel_rfl) (fun _ _ _ h => h) (Or.inl ⟨by rfl, ?_⟩) hS ?_
                        · rintro w6 ⟨s1, s2, s3⟩
                          go_simp
                        simp only [Act.put, List.setIfInBounds_toArray, List.set_cons_zero, List.set_cons_succ, List.getElem_toArray, List.getElem_cons_zero, List.getElem_cons_succ]
                        refine wpAnyH_take (i := 4) (v := .int .i64 (p : Int)) rfl (by kernel_rfl) (by kernel_rfl) (by kernel_rfl) (fun _ _ _ h => h) (Or.inl ⟨by rfl, ?_⟩) hS ?_
                        · rintro w6 ⟨s1, s2, s3⟩
                          go_simp
                        simp only [Act.put, List.setIfInBounds_toArray, List.set_cons_zero, List.set_cons_succ, List.getElem_toArray, List.getElem_cons_zero, List.getElem_cons_succ]
                        refine wpAnyH_take (i := 5) (v := .pointer (some ⟨gb, gO + p * 4, none⟩)) rfl (by kernel_rfl) (by kernel_rfl) (by kernel_rfl) (fun _ _ _ h => h) (Or.inl ⟨by rfl, ?_⟩) hS ?_
                        · rintro w6 ⟨s1, s2, s3⟩
                          go_simp
                        simp only [Act.put, List.setIfInBounds_toArray, List.set_cons_zero, List.set_cons_succ, List.getElem_toArray, List.getElem_cons_zero, List.getElem_cons_succ]
                        refine wpAnyH_take (i := 6) (v := .pointer (some ⟨gb, gO + p * 4 + 3, none⟩)) rfl (by kernel_rfl) (by kernel_rfl) (by kernel_rfl) (fun _ _ _ h => h) (Or.inl ⟨by rfl, ?_⟩) hS ?_
                        · rintro w6 ⟨s1, s2, s3⟩
                          go_simp
                        simp only [Act.put, List.setIfInBounds_toArray, List.set_cons_zero, List.set_cons_succ, List.getElem_toArray, List.getElem_cons_zero, List.getElem_cons_succ]
                        refine wpAnyH_take (i := 7) (v := .bool dn) rfl (by kernel_rfl) (by kernel_rfl) (by kernel_rfl) (fun _ _ _ h => h) (Or.inl ⟨by rfl, ?_⟩) hS ?_
                        · rintro w6 ⟨s1, s2, s3⟩
                          go_simp
                        simp only [Act.put, List.setIfInBounds_toArray, List.set_cons_zero, List.set_cons_succ, List.getElem_toArray, List.getElem_cons_zero, List.getElem_cons_succ]
                        refine wpAnyH_ready (rs := [2]) (by kernel_rfl) (by simp) ?_
                        refine AllReadyH.cons rfl (fun K5 hK5 => ?_) AllReadyH.nil
                        go_simp
                        go_at_call 23
                        (with_reducible refine (HDN.out _ HZ2.out.drew).mono ?_)
                        rintro e w5 ⟨rfl, rfl⟩
                        refine hK5.out _ _ hS (fun _ => ?_)
                        clear hK5 K5
                        refine wpAnyH_take (i := 8) (v := .bool false) rfl (by kernel_rfl) (by kernel_rfl) (by kernel_rfl) (fun _ _ _ h => h) (Or.inl ⟨by rfl, ?_⟩) hS ?_
                        · rintro w6 ⟨s1, s2, s3⟩
                          go_simp
                        simp only [Act.put, List.setIfInBounds_toArray, List.set_cons_zero, List.set_cons_succ, List.getElem_toArray, List.getElem_cons_zero, List.getElem_cons_succ]
                        refine wpAnyH_take (i := 9) (v := .bool false) rfl (by kernel_rfl) (by kernel_rfl) (by kernel_rfl) (fun _ _ _ h => h) (Or.inl ⟨by rfl, ?_⟩) hS ?_
                        · rintro w6 ⟨s1, s2, s3⟩
                          go_simp
                        simp only [Act.put, List.setIfInBounds_toArray, List.set_cons_zero, List.set_cons_succ, List.getElem_toArray, List.getElem_cons_zero, List.getElem_cons_succ]
                        refine wpAnyH_take (i := 10) (v := .pointer (some ⟨D, 0, none⟩)) rfl (by kernel_rfl) (by kernel_rfl) (by kernel_rfl) (fun _ _ _ h => h) (Or.inl ⟨by rfl, ?_⟩) hS ?_
                        · rintro w6 ⟨s1, s2, s3⟩
                          go_simp
                        simp only [Act.put, List.setIfInBounds_toArray, List.set_cons_zero, List.set_cons_succ, List.getElem_toArray, List.getElem_cons_zero, List.getElem_cons_succ]
                        refine wpAnyH_take (i := 11) (v := .int .i64 (p : Int)) rfl (by kernel_rfl) (by kernel_rfl) (by kernel_rfl) (fun _ _ _ h => h) (Or.inl ⟨by rfl, ?_⟩) hS ?_
                        · rintro w6 ⟨s1, s2, s3⟩
                          go_simp
                        simp only [Act.put, List.setIfInBounds_toArray, List.set_cons_zero, List.set_cons_succ, List.getElem_toArray, List.getElem_cons_zero, List.getElem_cons_succ]
                        refine wpAnyH_take (i := 13) (v := .slice (some ⟨gb, gO, none⟩) m c5) rfl (by kernel_rfl) (by kernel_rfl) (by kernel_rfl) (fun _ _ _ h => h) (Or.inl ⟨by rfl, ?_⟩) hS ?_
                        · rintro w6 ⟨s1, s2, s3⟩
                          go_simp
                        simp only [Act.put, List.setIfInBounds_toArray, List.set_cons_zero, List.set_cons_succ, List.getElem_toArray, List.getElem_cons_zero, List.getElem_cons_succ]
                        refine wpAnyH_take (i := 14) (v := .int .i64 (p : Int)) rfl (by kernel_rfl) (by kernel_rfl) (by kernel_rfl) (fun _ _ _ h => h) (Or.inl ⟨by rfl, ?_⟩) hS ?_
                        · rintro w6 ⟨s1, s2, s3⟩
                          go_simp
                        simp only [Act.put, List.setIfInBounds_toArray, List.set_cons_zero, List.set_cons_succ, List.getElem_toArray, List.getElem_cons_zero, List.getElem_cons_succ]
                        refine wpAnyH_take (i := 15) (v := .pointer (some ⟨gb, gO + p * 4, none⟩)) rfl (by kernel_rfl) (by kernel_rfl) (by kernel_rfl) (fun _ _ _ h => h) (Or.inl ⟨by rfl, ?_⟩) hS ?_
                        · rintro w6 ⟨s1, s2, s3⟩
                          go_simp
                        simp only [Act.put, List.setIfInBounds_toArray, List.set_cons_zero, List.set_cons_succ, List.getElem_toArray, List.getElem_cons_zero, List.getElem_cons_succ]
                        refine wpAnyH_take (i := 16) (v := .pointer (some ⟨gb, gO + p * 4 + 1, none⟩)) rfl (by kernel_rfl) (by kernel_rfl) (by kernel_rfl) (fun _ _ _ h => h) (Or.inl ⟨by rfl, ?_⟩) hS ?_
                        · rintro w6 ⟨s1, s2, s3⟩
                          go_simp
                        simp only [Act.put, List.setIfInBounds_toArray, List.set_cons_zero, List.set_cons_succ, List.getElem_toArray, List.getElem_cons_zero, List.getElem_cons_succ]
                        refine wpAnyH_take (i := 17) (v := .slice lA ln lc) rfl (by kernel_rfl) (by kernel_rfl) (by kernel_rfl) (fun _ _ _ h => h) (Or.inl ⟨by rfl, ?_⟩) hS ?_
                        · rintro w6 ⟨s1, s2, s3⟩
                          go_simp
                        simp only [Act.put, List.setIfInBounds_toArray, List.set_cons_zero, List.set_cons_succ, List.getElem_toArray, List.getElem_cons_zero, List.getElem_cons_succ]
                        refine wpAnyH_ready (rs := [12]) (by kernel_rfl) (by simp) ?_
                        refine AllReadyH.cons rfl (fun K5 hK5 => ?_) AllReadyH.nil
                        go_simp
                        go_at_call 25
                        (with_reducible refine (HLO.out _ HZ2.out.drew).mono ?_)
                        rintro e w5 ⟨vl, rfl, h1, h2⟩
                        have RA := Lib.hid (reads_ownv h1)
                        obtain ⟨A5, c5, rfl⟩ := own_slw h1
                        have Z5 := Lib.hid (HZ2.out.drew.below h2)
                        have B5 := Lib.hid (below_step (Below.refl _ wr).drew h2)
                        have G5 := Lib.hid (HG2.out.below B5.out)
                        have hS1 : (fun w' : World => w'.cell? ⟨gb, gO + p * 4 + 3, none⟩ = some (.bool dn) ∧ w'.cell? ⟨gb, gO + p * 4 + 1, none⟩ = some (.slice lA ln lc) ∧ w'.cell? ⟨sb, so + p, none⟩ = some (.int .i64 sz)) w5 := ⟨cellB d3 B5.out, cellB d1 B5.out, cellB ds B5.out⟩
                        clear h1 h2
                        refine hK5.out _ _ hS1 (fun _ => ?_)
                        clear hK5 K5
                        refine wpAnyH_ready (rs := [18]) (by kernel_rfl) (by simp) ?_
                        refine AllReadyH.cons rfl (fun K5 hK5 => ?_) AllReadyH.nil
                        go_simp
                        go_at_call 26
                        (with_reducible refine (HPG.out _ B5.out).mono ?_)
                        rintro e w6 ⟨vl, rfl, h1, h2⟩
                        have RB := Lib.hid (reads_ownv h1)
                        obtain ⟨A6, c6, rfl⟩ := own_slw h1
                        have RA2 := Lib.hid ((RA.out _ _ rfl).keep_ h2)
                        have Z6 := Lib.hid (Z5.out.below h2)
                        have B6 := Lib.hid (below_step B5.out h2)
                        have hS2 : (fun w' : World => w'.cell? ⟨gb, gO + p * 4 + 3, none⟩ = some (.bool dn) ∧ w'.cell? ⟨gb, gO + p * 4 + 1, none⟩ = some (.slice lA ln lc) ∧ w'.cell? ⟨sb, so + p, none⟩ = some (.int .i64 sz)) w6 := ⟨cellB d3 B6.out, cellB d1 B6.out, cellB ds B6.out⟩
                        clear h1 h2
                        refine hK5.out _ _ hS2 (fun _ => ?_)
                        clear hK5 K5
                        refine wpAnyH_ready (rs := [19]) (by kernel_rfl) (by simp) ?_
                        refine AllReadyH.cons rfl (fun K5 hK5 => ?_) AllReadyH.nil
                        go_simp
                        go_at_call 24
                        (with_reducible refine (r3Ints_z lz _ _ _ _ _ w6 rfl RA2.out (RB.out _ _ rfl) HLL.out).mono ?_)
                        rintro e w7 ⟨rfl, h1⟩
                        have Z7 := Lib.hid (Z6.out.below h1)
                        have B7 := Lib.hid (below_step B6.out h1)
                        have G7 := Lib.hid (HG2.out.below B7.out)
                        have hS3 : (fun w' : World => w'.cell? ⟨gb, gO + p * 4 + 3, none⟩ = some (.bool dn) ∧ w'.cell? ⟨gb, gO + p * 4 + 1, none⟩ = some (.slice lA ln lc) ∧ w'.cell? ⟨sb, so + p, none⟩ = some (.int .i64 sz)) w7 := ⟨cellB d3 B7.out, cellB d1 B7.out, cellB ds B7.out⟩
                        clear h1
                        refine hK5.out _ _ hS3 (fun _ => ?_)
                        clear hK5 K5
                        refine wpAnyH_take (i := 20) (v := .bool false) rfl (by kernel_rfl) (by kernel_rfl) (by kernel_rfl) (fun _ _ _ h => h) (Or.inl ⟨by rfl, ?_⟩) hS3 ?_
                        · rintro w6 ⟨s1, s2, s3⟩
                          go_simp
                        simp only [Act.put, List.setIfInBounds_toArray, List.set_cons_zero, List.set_cons_succ, List.getElem_toArray, List.getElem_cons_zero, List.getElem_cons_succ]
                        refine wpAnyH_take (i := 21) (v := .bool false) rfl (by kernel_rfl) (by kernel_rfl) (by kernel_rfl) (fun _ _ _ h => h) (Or.inl ⟨by rfl, ?_⟩) hS3 ?_
                        · rintro w6 ⟨s1, s2, s3⟩
                          go_simp
                        simp only [Act.put, List.setIfInBounds_toArray, List.set_cons_zero, List.set_cons_succ, List.getElem_toArray, List.getElem_cons_zero, List.getElem_cons_succ]
                        refine wpAnyH_take (i := 22) (v := .bool false) rfl (by kernel_rfl) (by kernel_rfl) (by kernel_rfl) (fun _ _ _ h => h) (Or.inl ⟨by rfl, ?_⟩) hS3 ?_
                        · rintro w6 ⟨s1, s2, s3⟩
                          go_simp
                        simp only [Act.put, List.setIfInBounds_toArray, List.set_cons_zero, List.set_cons_succ, List.getElem_toArray, List.getElem_cons_zero, List.getElem_cons_succ]
                        refine wpAnyH_take (i := 23) (v := .pointer (some ⟨D, 0, none⟩)) rfl (by kernel_rfl) (by kernel_rfl) (by kernel_rfl) (fun _ _ _ h => h) (Or.inl ⟨by rfl, ?_⟩) hS3 ?_
                        · rintro w6 ⟨s1, s2, s3⟩
                          go_simp
                        simp only [Act.put, List.setIfInBounds_toArray, List.set_cons_zero, List.set_cons_succ, List.getElem_toArray, List.getElem_cons_zero, List.getElem_cons_succ]
                        refine wpAnyH_take (i := 24) (v := .int .i64 (p : Int)) rfl (by kernel_rfl) (by kernel_rfl) (by kernel_rfl) (fun _ _ _ h => h) (Or.inl ⟨by rfl, ?_⟩) hS3 ?_
                        · rintro w6 ⟨s1, s2, s3⟩
                          go_simp
                        simp only [Act.put, List.setIfInBounds_toArray, List.set_cons_zero, List.set_cons_succ, List.getElem_toArray, List.getElem_cons_zero, List.getElem_cons_succ]
                        refine wpAnyH_take (i := 26) (v := .slice (some ⟨sb, so, none⟩) m c0) rfl (by kernel_rfl) (by kernel_rfl) (by kernel_rfl) (fun _ _ _ h => h) (Or.inl ⟨by rfl, ?_⟩) hS3 ?_
                        · rintro w6 ⟨s1, s2, s3⟩
                          go_simp
                        simp only [Act.put, List.setIfInBounds_toArray, List.set_cons_zero, List.set_cons_succ, List.getElem_toArray, List.getElem_cons_zero, List.getElem_cons_succ]
                        refine wpAnyH_take (i := 27) (v := .int .i64 (p : Int)) rfl (by kernel_rfl) (by kernel_rfl) (by kernel_rfl) (fun _ _ _ h => h) (Or.inl ⟨by rfl, ?_⟩) hS3 ?_
                        · rintro w6 ⟨s1, s2, s3⟩
                          go_simp
                        simp only [Act.put, List.setIfInBounds_toArray, List.set_cons_zero, List.set_cons_succ, List.getElem_toArray, List.getElem_cons_zero, List.getElem_cons_succ]
                        refine wpAnyH_take (i := 28) (v := .pointer (some ⟨sb, so + p, none⟩)) rfl (by kernel_rfl) (by kernel_rfl) (by kernel_rfl) (fun _ _ _ h => h) (Or.inl ⟨by rfl, ?_⟩) hS3 ?_
                        · rintro w6 ⟨s1, s2, s3⟩
                          go_simp
                        simp only [Act.put, List.setIfInBounds_toArray, List.set_cons_zero, List.set_cons_succ, List.getElem_toArray, List.getElem_cons_zero, List.getElem_cons_succ]
                        refine wpAnyH_take (i := 29) (v := .int .i64 sz) rfl (by kernel_rfl) (by kernel_rfl) (by kernel_rfl) (fun _ _ _ h => h) (Or.inl ⟨by rfl, ?_⟩) hS3 ?_
                        · rintro w6 ⟨s1, s2, s3⟩
                          go_simp
                        simp only [Act.put, List.setIfInBounds_toArray, List.set_cons_zero, List.set_cons_succ, List.getElem_toArray, List.getElem_cons_zero, List.getElem_cons_succ]
                        refine wpAnyH_ready (rs := [25]) (by kernel_rfl) (by simp) ?_
                        refine AllReadyH.cons rfl (fun K5 hK5 => ?_) AllReadyH.nil
                        go_simp
                        go_at_call 27
                        (with_reducible refine (HLE.out _ Z7.out).mono ?_)
                        rintro e w8 ⟨rfl, rfl⟩
                        refine hK5.out _ _ hS3 (fun _ => ?_)
                        clear hK5 K5
                        refine wpAnyH_take (i := 30) (v := .bool false) rfl (by kernel_rfl) (by kernel_rfl) (by kernel_rfl) (fun _ _ _ h => h) (Or.inl ⟨by rfl, ?_⟩) hS3 ?_
                        · rintro w6 ⟨s1, s2, s3⟩
                          go_simp
                        simp only [Act.put, List.setIfInBounds_toArray, List.set_cons_zero, List.set_cons_succ, List.getElem_toArray, List.getElem_cons_zero, List.getElem_cons_succ]
                        refine wpAnyH_take (i := 31) (v := .bool false) rfl (by kernel_rfl) (by kernel_rfl) (by kernel_rfl) (fun _ _ _ h => h) (Or.inl ⟨by rfl, ?_⟩) hS3 ?_
                        · rintro w6 ⟨s1, s2, s3⟩
                          go_simp
                        simp only [Act.put, List.setIfInBounds_toArray, List.set_cons_zero, List.set_cons_succ, List.getElem_toArray, List.getElem_cons_zero, List.getElem_cons_succ]
                        refine wpAnyH_done (by kernel_rfl) ?_ _
                        refine hK _ _ ?_
                        go_wp2
                        go_roundw
                        case rel => exact ⟨p + 1, by omega, by go_num, Z7.out, G7.out⟩
                        case measure => simp [intOf]; omega
                      · obtain rfl : p = m := by omega
                        go_wp2
                        go_roundw
                        case rel => exact ⟨k + 1, gs5, T3, A5, c5, by omega, by go_num, rfl, HZ2.out, HG2.out, HSX.out⟩
                        case measure => simp [intOf]; omega
                · have e2 : (x.s.kind == 2) = false := by simpa using k2
                  clear k2
                  by_cases k3 : x.s.kind = 3
                  · have e3 : (x.s.kind == 3) = true := by simpa using k3
                    clear k3
                    as_aux_lemma =>
                      have HTX := Lib.hid (fun w2 (h2 : Below w.heap.size w w2) => HS.out.txts h2 HXM.out HK8.out)
                      have HOB : Hid (0 < x.kn → ∀ a, x.ka = some a → a.block < w.heap.size) := Lib.hid HKP.out.2.2.2.2.2.2
                      go_wp2_with (first
                        | (go_at_call 19; have hq := Crash_z x.ka x.kn x.kc x.s.keep Z1.out (by omega) (HTX.out _ Z1.out.bel) (fun h0 a ha => (by cases hT : T a.block with | none => rfl | some t => exact absurd (Z1.out.lo _ _ hT).1 (by have := HOB.out h0 a ha; omega))) (by rw [rgs_len]; exact HGL.out); (with_reducible refine hq.mono ?_); clear hq; rintro e w3 ⟨rfl, T3, h1, h2⟩; have Z3 := Lib.hid h1; have G3 := Lib.hid (G1.out.tn h2); have X3 := Lib.hid (X1.out.tn h2); have q2 := X3.out.has.cell 2; have q5 := X3.out.has.cell 5; simp only [Sx.cells, List.getElem?_toArray, List.getElem?_cons_succ, List.getElem?_cons_zero] at q2 q5; clear h1 h2)
                        | (go_at_call 20; (with_reducible refine (r6Crash_any x.ka x.kn x.kc x.s.keep G3.out (HTX.out _ Z3.out.bel) HGL.out HM.out (fun g hg => Z3.out.lo.un hg)).mono ?_); rintro e w5 ⟨A5, c5, gs5, rfl, h1, h2, h3⟩; have G5 := Lib.hid h1; have R5 := Lib.hid h2; have Z5 := Lib.hid (Z3.out.below h3); clear h1 h2 h3))
                      have HZX : Hid (Dz w w5 T3 0 D DA (k + 1) (rgs gs5)) := Lib.hid (by rw [R5.out]; exact Z5.out.more (Nat.le_succ k))
                      have HSX : Hid (szs (rgs gs5) = ls.map Int.toNat) := Lib.hid (by rw [R5.out, szs_cr]; exact HSZ.out)
                      go_loopw [20] (fun q wr => ∃ p : Nat, p ≤ m ∧ q = .int .i64 (p : Int) ∧ Dz w wr T3 0 D DA (k + 1) (rgs gs5) ∧ GA wr T3 A5 m c5 gs5) (fun q _ => m - (intOf q).toNat)
                      case atStart => exact ⟨0, Nat.zero_le _, rfl, HZX.out, G5.out⟩
                      case round =>
                        obtain ⟨p, hp0, rfl, hz, hg⟩ := hrel
                        have HZ2 := Lib.hid hz
                        have HG2 := Lib.hid hg
                        clear hz hg
                        by_cases hp : p < m
                        · obtain ⟨gb, gO, sb, so, dn, lA, lc, ln, lz, sz, rfl, rfl, d1, d3, ds, HDN, HLO, HPG, HLE, HLL⟩ := tail_facts HZ2.out HG2.out HI.out HNB.out HSX.out hp (by omega)
                          have p1 : (p : Int) < (m : Int) := by omega
                          have p2 : (0 : Int) ≤ (p : Int) := by omega
                          have hS : (fun w' : World => w'.cell? ⟨gb, gO + p * 4 + 3, none⟩ = some (.bool dn) ∧ w'.cell? ⟨gb, gO + p * 4 + 1, none⟩ = some (.slice lA ln lc) ∧ w'.cell? ⟨sb, so + p, none⟩ = some (.int .i64 sz)) wr.drew := ⟨d3, d1, ds⟩
                          go_wp2
                          rename_i K hK
                          refine wp_held (fun w' : World => w'.cell? ⟨gb, gO + p * 4 + 3, none⟩ = some (.bool dn) ∧ w'.cell? ⟨gb, gO + p * 4 + 1, none⟩ = some (.slice lA ln lc) ∧ w'.cell? ⟨sb, so + p, none⟩ = some (.int .i64 sz)) K hmx ?_ (fun _ _ h => h)
                          refine wpAnyH_take (i := 0) (v := .pointer (some ⟨D, 0, none⟩)) rfl (by kernel_rfl) (by kernel_rfl) (by kernel_rfl) (fun _ _ _ h => h) (Or.inl ⟨by rfl, ?_⟩) hS ?_
                          · rintro w6 ⟨s1, s2, s3⟩
                            go_simp
                          simp only [Act.put, List.setIfInBounds_toArray, List.set_cons_zero, List.set_cons_succ, List.getElem_toArray, List.getElem_cons_zero]
                          refine wpAnyH_take (i := 1) (v := .int .i64 (p : Int)) rfl (by kernel_rfl) (by kernel_rfl) (by kernel_rfl) (fun _ _ _ h => h) (Or.inl ⟨by rfl, ?_⟩) hS ?_
                          · rintro w6 ⟨s1, s2, s3⟩
                            go_simp
                          simp only [Act.put, List.setIfInBounds_toArray, List.set_cons_zero, List.set_cons_succ, List.getElem_toArray, List.getElem_cons_zero, List.getElem_cons_succ]
                          refine wpAnyH_take (i := 3) (v := .slice (some ⟨gb, gO, none⟩) m c5) rfl (by kernel_rfl) (by kernel_rfl) (by kernel_rfl) (fun _ _ _ h => h) (Or.inl ⟨by rfl, ?_⟩) hS ?_
                          · rintro w6 ⟨s1, s2, s3⟩
                            go_simp
                          simp only [Act.put, List.setIfInBounds_toArray, List.set_cons_zero, List.set_cons_succ, List.getElem_toArray, List.getElem_cons_zero, List.getElem_cons_succ]
                          refine wpAnyH_take (i := 4) (v := .int .i64 (p : Int)) rfl (by kernel_rfl) (by kernel_rfl) (by kernel_rfl) (fun _ _ _ h => h) (Or.inl ⟨by rfl, ?_⟩) hS ?_
                          · rintro w6 ⟨s1, s2, s3⟩
                            go_simp
                          simp only [Act.put, List.setIfInBounds_toArray, List.set_cons_zero, List.set_cons_succ, List.getElem_toArray, List.getElem_cons_zero, List.getElem_cons_succ]
                          refine wpAnyH_take (i := 5) (v := .pointer (some ⟨gb, gO + p * 4, none⟩)) rfl (by kernel_rfl) (by kernel_rfl) (by kernel_rfl) (fun _ _ _ h => h) (Or.inl ⟨by rfl, ?_⟩) hS ?_
                          · rintro w6 ⟨s1, s2, s3⟩
                            go_simp
                          simp only [Act.put, List.setIfInBounds_toArray, List.set_cons_zero, List.set_cons_succ, List.getElem_toArray, List.getElem_cons_zero, List.getElem_cons_succ]
                          refine wpAnyH_take (i := 6) (v := .pointer (some ⟨gb, gO + p * 4 + 3, none⟩)) rfl (by kernel_rfl) (by kernel_rfl) (by kernel_rfl) (fun _ _ _ h => h) (Or.inl ⟨by rfl, ?_⟩) hS ?_
                          · rintro w6 ⟨s1, s2, s3⟩
                            go_simp
                          simp only [Act.put, List.setIfInBounds_toArray, List.set_cons_zero, List.set_cons_succ, List.getElem_toArray, List.getElem_cons_zero, List.getElem_cons_succ]
                          refine wpAnyH_take (i := 7) (v := .bool dn) rfl (by kernel_rfl) (by kernel_rfl) (by kernel_rfl) (fun _ _ _ h => h) (Or.inl ⟨by rfl, ?_⟩) hS ?_
                          · rintro w6 ⟨s1, s2, s3⟩
                            go_simp
                          simp only [Act.put, List.setIfInBounds_toArray, List.set_cons_zero, List.set_cons_succ, List.getElem_toArray, List.getElem_cons_zero, List.getElem_cons_succ]
                          refine wpAnyH_ready (rs := [2]) (by kernel_rfl) (by simp) ?_
                          refine AllReadyH.cons rfl (fun K5 hK5 => ?_) AllReadyH.nil
                          go_simp
                          go_at_call 23
                          (with_reducible refine (HDN.out _ HZ2.out.drew).mono ?_)
                          rintro e w5 ⟨rfl, rfl⟩
                          refine hK5.out _ _ hS (fun _ => ?_)
                          clear hK5 K5
                          refine wpAnyH_take (i := 8) (v := .bool false) rfl (by kernel_rfl) (by kernel_rfl) (by kernel_rfl) (fun _ _ _ h => h) (Or.inl ⟨by rfl, ?_⟩) hS ?_
                          · rintro w6 ⟨s1, s2, s3⟩
                            go_simp
                          simp only [Act.put, List.setIfInBounds_toArray, List.set_cons_zero, List.set_cons_succ, List.getElem_toArray, List.getElem_cons_zero, List.getElem_cons_succ]
                          refine wpAnyH_take (i := 9) (v := .bool false) rfl (by kernel_rfl) (by kernel_rfl) (by kernel_rfl) (fun _ _ _ h => h) (Or.inl ⟨by rfl, ?_⟩) hS ?_
                          · rintro w6 ⟨s1, s2, s3⟩
                            go_simp
                          simp only [Act.put, List.setIfInBounds_toArray, List.set_cons_zero, List.set_cons_succ, List.getElem_toArray, List.getElem_cons_zero, List.getElem_cons_succ]
                          refine wpAnyH_take (i := 10) (v := .pointer (some ⟨D, 0, none⟩)) rfl (by kernel_rfl) (by kernel_rfl) (by kernel_rfl) (fun _ _ _ h => h) (Or.inl ⟨by rfl, ?_⟩) hS ?_
                          · rintro w6 ⟨s1, s2, s3⟩
                            go_simp
                          simp only [Act.put, List.setIfInBounds_toArray, List.set_cons_zero, List.set_cons_succ, List.getElem_toArray, List.getElem_cons_zero, List.getElem_cons_succ]
                          refine wpAnyH_take (i := 11) (v := .int .i64 (p : Int)) rfl (by kernel_rfl) (by kernel_rfl) (by kernel_rfl) (fun _ _ _ h => h) (Or.inl ⟨by rfl, ?_⟩) hS ?_
                          · rintro w6 ⟨s1, s2, s3⟩
                            go_simp
                          simp only [Act.put, List.setIfInBounds_toArray, List.set_cons_zero, List.set_cons_succ, List.getElem_toArray, List.getElem_cons_zero, List.getElem_cons_succ]
                          refine wpAnyH_take (i := 13) (v := .slice (some ⟨gb, gO, none⟩) m c5) rfl (by kernel_rfl) (by kernel_rfl) (by kernel_rfl) (fun _ _ _ h => h) (Or.inl ⟨by rfl, ?_⟩) hS ?_
                          · rintro w6 ⟨s1, s2, s3⟩
                            go_simp
                          simp only [Act.put, List.setIfInBounds_toArray, List.set_cons_zero, List.set_cons_succ, List.getElem_toArray, List.getElem_cons_zero, List.getElem_cons_succ]
                          refine wpAnyH_take (i := 14) (v := .int .i64 (p : Int)) rfl (by kernel_rfl) (by kernel_rfl) (by kernel_rfl) (fun _ _ _ h => h) (Or.inl ⟨by rfl, ?_⟩) hS ?_
                          · rintro w6 ⟨s1, s2, s3⟩
                            go_simp
                          simp only [Act.put, List.setIfInBounds_toArray, List.set_cons_zero, List.set_cons_succ, List.getElem_toArray, List.getElem_cons_zero, List.getElem_cons_succ]
                          refine wpAnyH_take (i := 15) (v := .pointer (some ⟨gb, gO + p * 4, none⟩)) rfl (by kernel_rfl) (by kernel_rfl) (by kernel_rfl) (fun _ _ _ h => h) (Or.inl ⟨by rfl, ?_⟩) hS ?_
                          · rintro w6 ⟨s1, s2, s3⟩
                            go_simp
                          simp only [Act.put, List.setIfInBounds_toArray, List.set_cons_zero, List.set_cons_succ, List.getElem_toArray, List.getElem_cons_zero, List.getElem_cons_succ]
                          refine wpAnyH_take (i := 16) (v := .pointer (some ⟨gb, gO + p * 4 + 1, none⟩)) rfl (by kernel_rfl) (by kernel_rfl) (by kernel_rfl) (fun _ _ _ h => h) (Or.inl ⟨by rfl, ?_⟩) hS ?_
                          · rintro w6 ⟨s1, s2, s3⟩
                            go_simp
                          simp only [Act.put, List.setIfInBounds_toArray, List.set_cons_zero, List.set_cons_succ, List.getElem_toArray, List.getElem_cons_zero, List.getElem_cons_succ]
                          refine wpAnyH_take (i := 17) (v := .slice lA ln lc) rfl (by kernel_rfl) (by kernel_rfl) (by kernel_rfl) (fun _ _ _ h => h) (Or.inl ⟨by rfl, ?_⟩) hS ?_
                          · rintro w6 ⟨s1, s2, s3⟩
                            go_simp
                          simp only [Act.put, List.setIfInBounds_toArray, List.set_cons_zero, List.set_cons_succ, List.getElem_toArray, List.getElem_cons_zero, List.getElem_cons_succ]
                          refine wpAnyH_ready (rs := [12]) (by kernel_rfl) (by simp) ?_
                          refine AllReadyH.cons rfl (fun K5 hK5 => ?_) AllReadyH.nil
                          go_simp
                          go_at_call 25
                          (with_reducible refine (HLO.out _ HZ2.out.drew).mono ?_)
                          rintro e w5 ⟨vl, rfl, h1, h2⟩
                          have RA := Lib.hid (reads_ownv h1)
                          obtain ⟨A5, c5, rfl⟩ := own_slw h1
                          have Z5 := Lib.hid (HZ2.out.drew.below h2)
                          have B5 := Lib.hid (below_step (Below.refl _ wr).drew h2)
                          have G5 := Lib.hid (HG2.out.below B5.out)
                          have hS1 : (fun w' : World => w'.cell? ⟨gb, gO + p * 4 + 3, none⟩ = some (.bool dn) ∧ w'.cell? ⟨gb, gO + p * 4 + 1, none⟩ = some (.slice lA ln lc) ∧ w'.cell? ⟨sb, so + p, none⟩ = some (.int .i64 sz)) w5 := ⟨cellB d3 B5.out, cellB d1 B5.out, cellB ds B5.out⟩
                          clear h1 h2
                          refine hK5.out _ _ hS1 (fun _ => ?_)
                          clear hK5 K5
                          refine wpAnyH_ready (rs := [18]) (by kernel_rfl) (by simp) ?_
                          refine AllReadyH.cons rfl (fun K5 hK5 => ?_) AllReadyH.nil
                          go_simp
                          go_at_call 26
                          (with_reducible refine (HPG.out _ B5.out).mono ?_)
                          rintro e w6 ⟨vl, rfl, h1, h2⟩
                          have RB := Lib.hid (reads_ownv h1)
                          obtain ⟨A6, c6, rfl⟩ := own_slw h1
                          have RA2 := Lib.hid ((RA.out _ _ rfl).keep_ h2)
                          have Z6 := Lib.hid (Z5.out.below h2)
                          have B6 := Lib.hid (below_step B5.out h2)
                          have hS2 : (fun w' : World => w'.cell? ⟨gb, gO + p * 4 + 3, none⟩ = some (.bool dn) ∧ w'.cell? ⟨gb, gO + p * 4 + 1, none⟩ = some (.slice lA ln lc) ∧ w'.cell? ⟨sb, so + p, none⟩ = some (.int .i64 sz)) w6 := ⟨cellB d3 B6.out, cellB d1 B6.out, cellB ds B6.out⟩
                          clear h1 h2
                          refine hK5.out _ _ hS2 (fun _ => ?_)
                          clear hK5 K5
                          refine wpAnyH_ready (rs := [19]) (by kernel_rfl) (by simp) ?_
                          refine AllReadyH.cons rfl (fun K5 hK5 => ?_) AllReadyH.nil
                          go_simp
                          go_at_call 24
                          (with_reducible refine (r3Ints_z lz _ _ _ _ _ w6 rfl RA2.out (RB.out _ _ rfl) HLL.out).mono ?_)
                          rintro e w7 ⟨rfl, h1⟩
                          have Z7 := Lib.hid (Z6.out.below h1)
                          have B7 := Lib.hid (below_step B6.out h1)
                          have G7 := Lib.hid (HG2.out.below B7.out)
                          have hS3 : (fun w' : World => w'.cell? ⟨gb, gO + p * 4 + 3, none⟩ = some (.bool dn) ∧ w'.cell? ⟨gb, gO + p * 4 + 1, none⟩ = some (.slice lA ln lc) ∧ w'.cell? ⟨sb, so + p, none⟩ = some (.int .i64 sz)) w7 := ⟨cellB d3 B7.out, cellB d1 B7.out, cellB ds B7.out⟩
                          clear h1
                          refine hK5.out _ _ hS3 (fun _ => ?_)
                          clear hK5 K5
                          refine wpAnyH_take (i := 20) (v := .bool false) rfl (by kernel_rfl) (by kernel_rfl) (by kernel_rfl) (fun _ _ _ h => h) (Or.inl ⟨by rfl, ?_⟩) hS3 ?_
                          · rintro w6 ⟨s1, s2, s3⟩
                            go_simp
                          simp only [Act.put, List.setIfInBounds_toArray, List.set_cons_zero, List.set_cons_succ, List.getElem_toArray, List.getElem_cons_zero, List.getElem_cons_succ]
                          refine wpAnyH_take (i := 21) (v := .bool false) rfl (by kernel_rfl) (by kernel_rfl) (by kernel_rfl) (fun _ _ _ h => h) (Or.inl ⟨by rfl, ?_⟩) hS3 ?_
                          · rintro w6 ⟨s1, s2, s3⟩
                            go_simp
                          simp only [Act.put, List.setIfInBounds_toArray, List.set_cons_zero, List.set_cons_succ, List.getElem_toArray, List.getElem_cons_zero, List.getElem_cons_succ]
                          refine wpAnyH_take (i := 22) (v := .bool false) rfl (by kernel_rfl) (by kernel_rfl) (by kernel_rfl) (fun _ _ _ h => h) (Or.inl ⟨by rfl, ?_⟩) hS3 ?_
                          · rintro w6 ⟨s1, s2, s3⟩
                            go_simp
                          simp only [Act.put, List.setIfInBounds_toArray, List.set_cons_zero, List.set_cons_succ, List.getElem_toArray, List.getElem_cons_zero, List.getElem_cons_succ]
                          refine wpAnyH_take (i := 23) (v := .pointer (some ⟨D, 0, none⟩)) rfl (by kernel_rfl) (by kernel_rfl) (by kernel_rfl) (fun _ _ _ h => h) (Or.inl ⟨by rfl, ?_⟩) hS3 ?_
                          · rintro w6 ⟨s1, s2, s3⟩
                            go_simp
                          simp only [Act.put, List.setIfInBounds_toArray, List.set_cons_zero, List.set_cons_succ, List.getElem_toArray, List.getElem_cons_zero, List.getElem_cons_succ]
                          refine wpAnyH_take (i := 24) (v := .int .i64 (p : Int)) rfl (by kernel_rfl) (by kernel_rfl) (by kernel_rfl) (fun _ _ _ h => h) (Or.inl ⟨by rfl, ?_⟩) hS3 ?_
                          · rintro w6 ⟨s1, s2, s3⟩
                            go_simp
                          simp only [Act.put, List.setIfInBounds_toArray, List.set_cons_zero, List.set_cons_succ, List.getElem_toArray, List.getElem_cons_zero, List.getElem_cons_succ]
                          refine wpAnyH_take (i := 26) (v := .slice (some ⟨sb, so, none⟩) m c0) rfl (by kernel_rfl) (by kernel_rfl) (by kernel_rfl) (fun _ _ _ h => h) (Or.inl ⟨by rfl, ?_⟩) hS3 ?_
                          · rintro w6 ⟨s1, s2, s3⟩
                            go_simp
                          simp only [Act.put, List.setIfInBounds_toArray, List.set_cons_zero, List.set_cons_succ, List.getElem_toArray, List.getElem_cons_zero, List.getElem_cons_succ]
                          refine wpAnyH_take (i := 27) (v := .int .i64 (p : Int)) rfl (by kernel_rfl) (by kernel_rfl) (by kernel_rfl) (fun _ _ _ h => h) (Or.inl ⟨by rfl, ?_⟩) hS3 ?_
                          · rintro w6 ⟨s1, s2, s3⟩
                            go_simp
                          simp only [Act.put, List.setIfInBounds_toArray, List.set_cons_zero, List.set_cons_succ, List.getElem_toArray, List.getElem_cons_zero, List.getElem_cons_succ]
                          refine wpAnyH_take (i := 28) (v := .pointer (some ⟨sb, so + p, none⟩)) rfl (by kernel_rfl) (by kernel_rfl) (by kernel_rfl) (fun _ _ _ h => h) (Or.inl ⟨by rfl, ?_⟩) hS3 ?_
                          · rintro w6 ⟨s1, s2, s3⟩
                            go_simp
                          simp only [Act.put, List.setIfInBounds_toArray, List.set_cons_zero, List.set_cons_succ, List.getElem_toArray, List.getElem_cons_zero, List.getElem_cons_succ]
                          refine wpAnyH_take (i := 29) (v := .int .i64 sz) rfl (by kernel_rfl) (by kernel_rfl) (by kernel_rfl) (fun _ _ _ h => h) (Or.inl ⟨by rfl, ?_⟩) hS3 ?_
                          · rintro w6 ⟨s1, s2, s3⟩
                            go_simp
                          simp only [Act.put, List.setIfInBounds_toArray, List.set_cons_zero, List.set_cons_succ, List.getElem_toArray, List.getElem_cons_zero, List.getElem_cons_succ]
                          refine wpAnyH_ready (rs := [25]) (by kernel_rfl) (by simp) ?_
                          refine AllReadyH.cons rfl (fun K5 hK5 => ?_) AllReadyH.nil
                          go_simp
                          go_at_call 27
                          (with_reducible refine (HLE.out _ Z7.out).mono ?_)
                          rintro e w8 ⟨rfl, rfl⟩
                          refine hK5.out _ _ hS3 (fun _ => ?_)
                          clear hK5 K5
                          refine wpAnyH_take (i := 30) (v := .bool false) rfl (by kernel_rfl) (by kernel_rfl) (by kernel_rfl) (fun _ _ _ h => h) (Or.inl ⟨by rfl, ?_⟩) hS3 ?_
                          · rintro w6 ⟨s1, s2, s3⟩
                            go_simp
                          simp only [Act.put, List.setIfInBounds_toArray, List.set_cons_zero, List.set_cons_succ, List.getElem_toArray, List.getElem_cons_zero, List.getElem_cons_succ]
                          refine wpAnyH_take (i := 31) (v := .bool false) rfl (by kernel_rfl) (by kernel_rfl) (by kernel_rfl) (fun _ _ _ h => h) (Or.inl ⟨by rfl, ?_⟩) hS3 ?_
                          · rintro w6 ⟨s1, s2, s3⟩
                            go_simp
                          simp only [Act.put, List.setIfInBounds_toArray, List.set_cons_zero, List.set_cons_succ, List.getElem_toArray, List.getElem_cons_zero, List.getElem_cons_succ]
                          refine wpAnyH_done (by kernel_rfl) ?_ _
                          refine hK _ _ ?_
                          go_wp2
                          go_roundw
                          case rel => exact ⟨p + 1, by omega, by go_num, Z7.out, G7.out⟩
                          case measure => simp [intOf]; omega
                        · obtain rfl : p = m := by omega
                          go_wp2
                          go_roundw
                          case rel => exact ⟨k + 1, gs5, T3, A5, c5, by omega, by go_num, rfl, HZ2.out, HG2.out, HSX.out⟩
                          case measure => simp [intOf]; omega
                  · have e3 : (x.s.kind == 3) = false := by simpa using k3
                    clear k3
                    by_cases k4 : x.s.kind = 4
                    · have e4 : (x.s.kind == 4) = true := by simpa using k4
                      clear k4
                      as_aux_lemma =>
                        obtain ⟨er, her⟩ : ∃ er, rdE (rgs gs) x.s.region x.s.page = er := ⟨_, rfl⟩
                        obtain ⟨lr, hlr⟩ : ∃ lr, rdL (rgs gs) x.s.region x.s.page = lr := ⟨_, rfl⟩
                        have HRD := Lib.hid (fun w1 (h1 : Dz w w1 T 0 D DA k (rgs gs)) => her ▸ hlr ▸ Read_z x.s.region x.s.page h1)
                        have HRE : Hid (∀ w1, GA w1 T A' m c' gs → Calls Try.prog 22 #[.slice A' m c', .int .i64 x.s.region, .int .i64 x.s.page] w1 fun e w' => e = .returned (.tuple #[.string ⟨lr.toArray⟩, .int .i64 er]) ∧ Below w1.heap.size w1 w') := Lib.hid (fun w1 h1 => by
                          have := r6Read_any x.s.region x.s.page h1 HM.out
                          rw [her, hlr] at this
                          exact this)
                        have HNO : Hid (er ≠ 0 → lr = []) := Lib.hid (fun h => by rw [← hlr]; exact up_not (by rw [her]; exact h))
                        clear her hlr
                        by_cases he : er = 0
                        · subst he
                          go_wp2_with (first
                            | (go_at_call 21; (with_reducible refine (HRD.out _ Z1.out).mono ?_); intro e w3 hr; obtain ⟨h1, gx, rfl, h3, h4, h5⟩ := rd_ok hr; have Z3 := Lib.hid (Z1.out.below h1); have G3 := Lib.hid (G1.out.below h1); have X3 := Lib.hid (X1.out.below h1); have q2 := X3.out.has.cell 2; simp only [Sx.cells, List.getElem?_toArray, List.getElem?_cons_succ, List.getElem?_cons_zero] at q2; have K3 : Hid (Bk w3 T gx 88 _) := Lib.hid ⟨h4, Z1.out.lo.un h3⟩; have HL5 := Lib.hid h5; clear hr h1 h3 h4 h5)
                            | (go_at_call 22; (with_reducible refine (HRE.out _ G3.out).mono ?_); rintro e w5 ⟨rfl, h1⟩; have Z5 := Lib.hid ((Z3.out.below h1).more (Nat.le_succ k)); have G5 := Lib.hid (G3.out.below h1); have sx := str_reads (n := 128) (c := 128) HL5.out.symm (K3.out.below h1).reads; clear h1))
                          go_loopw [20] (fun q wr => ∃ p : Nat, p ≤ m ∧ q = .int .i64 (p : Int) ∧ Dz w wr T 0 D DA (k + 1) (rgs gs) ∧ GA wr T A' m c' gs) (fun q _ => m - (intOf q).toNat)
                          case atStart => exact ⟨0, Nat.zero_le _, rfl, Z5.out, G5.out⟩
                          case round =>
                            obtain ⟨p, hp0, rfl, hz, hg⟩ := hrel
                            have HZ2 := Lib.hid hz
                            have HG2 := Lib.hid hg
                            clear hz hg
                            by_cases hp : p < m
                            · obtain ⟨gb, gO, sb, so, dn, lA, lc, ln, lz, sz, rfl, rfl, d1, d3, ds, HDN, HLO, HPG, HLE, HLL⟩ := tail_facts HZ2.out HG2.out HI.out HNB.out HSZ.out hp (by omega)
                              have p1 : (p : Int) < (m : Int) := by omega
                              have p2 : (0 : Int) ≤ (p : Int) := by omega
                              have hS : (fun w' : World => w'.cell? ⟨gb, gO + p * 4 + 3, none⟩ = some (.bool dn) ∧ w'.cell? ⟨gb, gO + p * 4 + 1, none⟩ = some (.slice lA ln lc) ∧ w'.cell? ⟨sb, so + p, none⟩ = some (.int .i64 sz)) wr.drew := ⟨d3, d1, ds⟩
                              go_wp2
                              rename_i K hK
                              refine wp_held (fun w' : World => w'.cell? ⟨gb, gO + p * 4 + 3, none⟩ = some (.bool dn) ∧ w'.cell? ⟨gb, gO + p * 4 + 1, none⟩ = some (.slice lA ln lc) ∧ w'.cell? ⟨sb, so + p, none⟩ = some (.int .i64 sz)) K hmx ?_ (fun _ _ h => h)
                              refine wpAnyH_take (i := 0) (v := .pointer (some ⟨D, 0, none⟩)) rfl (by kernel_rfl) (by kernel_rfl) (by kernel_rfl) (fun _ _ _ h => h) (Or.inl ⟨by rfl, ?_⟩) hS ?_
                              · rintro w6 ⟨s1, s2, s3⟩
                                go_simp
                              simp only [Act.put, List.setIfInBounds_toArray, List.set_cons_zero, List.set_cons_succ, List.getElem_toArray, List.getElem_cons_zero]
                              refine wpAnyH_take (i := 1) (v := .int .i64 (p : Int)) rfl (by kernel_rfl) (by kernel_rfl) (by kernel_rfl) (fun _ _ _ h => h) (Or.inl ⟨by rfl, ?_⟩) hS ?_
                              · rintro w6 ⟨s1, s2, s3⟩
                                go_simp
                              simp only [Act.put, List.setIfInBounds_toArray, List.set_cons_zero, List.set_cons_succ, List.getElem_toArray, List.getElem_cons_zero, List.getElem_cons_succ]
                              refine wpAnyH_take (i := 3) (v := .slice (some ⟨gb, gO, none⟩) m c') rfl (by kernel_rfl) (by kernel_rfl) (by kernel_rfl) (fun _ _ _ h => h) (Or.inl ⟨by rfl, ?_⟩) hS ?_
                              · rintro w6 ⟨s1, s2, s3⟩
                                go_simp
                              simp only [Act.put, List.setIfInBounds_toArray, List.set_cons_zero, List.set_cons_succ, List.getElem_toArray, List.getElem_cons_zero, List.getElem_cons_succ]
                              refine wpAnyH_take (i := 4) (v := .int .i64 (p : Int)) rfl (by kernel_rfl) (by kernel_rfl) (by kernel_rfl) (fun _ _ _ h => h) (Or.inl ⟨by rfl, ?_⟩) hS ?_
                              · rintro w6 ⟨s1, s2, s3⟩
                                go_simp
                              simp only [Act.put, List.setIfInBounds_toArray, List.set_cons_zero, List.set_cons_succ, List.getElem_toArray, List.getElem_cons_zero, List.getElem_cons_succ]
                              refine wpAnyH_take (i := 5) (v := .pointer (some ⟨gb, gO + p * 4, none⟩)) rfl (by kernel_rfl) (by kernel_rfl) (by kernel_rfl) (fun _ _ _ h => h) (Or.inl ⟨by rfl, ?_⟩) hS ?_
                              · rintro w6 ⟨s1, s2, s3⟩
                                go_simp
                              simp only [Act.put, List.setIfInBounds_toArray, List.set_cons_zero, List.set_cons_succ, List.getElem_toArray, List.getElem_cons_zero, List.getElem_cons_succ]
                              refine wpAnyH_take (i := 6) (v := .pointer (some ⟨gb, gO + p * 4 + 3, none⟩)) rfl (by kernel_rfl) (by kernel_rfl) (by kernel_rfl) (fun _ _ _ h => h) (Or.inl ⟨by rfl, ?_⟩) hS ?_
                              · rintro w6 ⟨s1, s2, s3⟩
                                go_simp
                              simp only [Act.put, List.setIfInBounds_toArray, List.set_cons_zero, List.set_cons_succ, List.getElem_toArray, List.getElem_cons_zero, List.getElem_cons_succ]
                              refine wpAnyH_take (i := 7) (v := .bool dn) rfl (by kernel_rfl) (by kernel_rfl) (by kernel_rfl) (fun _ _ _ h => h) (Or.inl ⟨by rfl, ?_⟩) hS ?_
                              · rintro w6 ⟨s1, s2, s3⟩
                                go_simp
                              simp only [Act.put, List.setIfInBounds_toArray, List.set_cons_zero, List.set_cons_succ, List.getElem_toArray, List.getElem_cons_zero, List.getElem_cons_succ]
                              refine wpAnyH_ready (rs := [2]) (by kernel_rfl) (by simp) ?_
                              refine AllReadyH.cons rfl (fun K5 hK5 => ?_) AllReadyH.nil
                              go_simp
                              go_at_call 23
                              (with_reducible refine (HDN.out _ HZ2.out.drew).mono ?_)
                              rintro e w5 ⟨rfl, rfl⟩
                              refine hK5.out _ _ hS (fun _ => ?_)
                              clear hK5 K5
                              refine wpAnyH_take (i := 8) (v := .bool false) rfl (by kernel_rfl) (by kernel_rfl) (by kernel_rfl) (fun _ _ _ h => h) (Or.inl ⟨by rfl, ?_⟩) hS ?_
                              · rintro w6 ⟨s1, s2, s3⟩
                                go_simp
                              simp only [Act.put, List.setIfInBounds_toArray, List.set_cons_zero, List.set_cons_succ, List.getElem_toArray, List.getElem_cons_zero, List.getElem_cons_succ]
                              refine wpAnyH_take (i := 9) (v := .bool false) rfl (by kernel_rfl) (by kernel_rfl) (by kernel_rfl) (fun _ _ _ h => h) (Or.inl ⟨by rfl, ?_⟩) hS ?_
                              · rintro w6 ⟨s1, s2, s3⟩
                                go_simp
                              simp only [Act.put, List.setIfInBounds_toArray, List.set_cons_zero, List.set_cons_succ, List.getElem_toArray, List.getElem_cons_zero, List.getElem_cons_succ]
                              refine wpAnyH_take (i := 10) (v := .pointer (some ⟨D, 0, none⟩)) rfl (by kernel_rfl) (by kernel_rfl) (by kernel_rfl) (fun _ _ _ h => h) (Or.inl ⟨by rfl, ?_⟩) hS ?_
                              · rintro w6 ⟨s1, s2, s3⟩
                                go_simp
                              simp only [Act.put, List.setIfInBounds_toArray, List.set_cons_zero, List.set_cons_succ, List.getElem_toArray, List.getElem_cons_zero, List.getElem_cons_succ]
                              refine wpAnyH_take (i := 11) (v := .int .i64 (p : Int)) rfl (by kernel_rfl) (by kernel_rfl) (by kernel_rfl) (fun _ _ _ h => h) (Or.inl ⟨by rfl, ?_⟩) hS ?_
                              · rintro w6 ⟨s1, s2, s3⟩
                                go_simp
                              simp only [Act.put, List.setIfInBounds_toArray, List.set_cons_zero, List.set_cons_succ, List.getElem_toArray, List.getElem_cons_zero, List.getElem_cons_succ]
                              refine wpAnyH_take (i := 13) (v := .slice (some ⟨gb, gO, none⟩) m c') rfl (by kernel_rfl) (by kernel_rfl) (by kernel_rfl) (fun _ _ _ h => h) (Or.inl ⟨by rfl, ?_⟩) hS ?_
                              · rintro w6 ⟨s1, s2, s3⟩
                                go_simp
                              simp only [Act.put, List.setIfInBounds_toArray, List.set_cons_zero, List.set_cons_succ, List.getElem_toArray, List.getElem_cons_zero, List.getElem_cons_succ]
                              refine wpAnyH_take (i := 14) (v := .int .i64 (p : Int)) rfl (by kernel_rfl) (by kernel_rfl) (by kernel_rfl) (fun _ _ _ h => h) (Or.inl ⟨by rfl, ?_⟩) hS ?_
                              · rintro w6 ⟨s1, s2, s3⟩
                                go_simp
                              simp only [Act.put, List.setIfInBounds_toArray, List.set_cons_zero, List.set_cons_succ, List.getElem_toArray, List.getElem_cons_zero, List.getElem_cons_succ]
                              refine wpAnyH_take (i := 15) (v := .pointer (some ⟨gb, gO + p * 4, none⟩)) rfl (by kernel_rfl) (by kernel_rfl) (by kernel_rfl) (fun _ _ _ h => h) (Or.inl ⟨by rfl, ?_⟩) hS ?_
                              · rintro w6 ⟨s1, s2, s3⟩
                                go_simp
                              simp only [Act.put, List.setIfInBounds_toArray, List.set_cons_zero, List.set_cons_succ, List.getElem_toArray, List.getElem_cons_zero, List.getElem_cons_succ]
                              refine wpAnyH_take (i := 16) (v := .pointer (some ⟨gb, gO + p * 4 + 1, none⟩)) rfl (by kernel_rfl) (by kernel_rfl) (by kernel_rfl) (fun _ _ _ h => h) (Or.inl ⟨by rfl, ?_⟩) hS ?_
                              · rintro w6 ⟨s1, s2, s3⟩
                                go_simp
                              simp only [Act.put, List.setIfInBounds_toArray, List.set_cons_zero, List.set_cons_succ, List.getElem_toArray, List.getElem_cons_zero, List.getElem_cons_succ]
                              refine wpAnyH_take (i := 17) (v := .slice lA ln lc) rfl (by kernel_rfl) (by kernel_rfl) (by kernel_rfl) (fun _ _ _ h => h) (Or.inl ⟨by rfl, ?_⟩) hS ?_
                              · rintro w6 ⟨s1, s2, s3⟩
                                go_simp
                              simp only [Act.put, List.setIfInBounds_toArray, List.set_cons_zero, List.set_cons_succ, List.getElem_toArray, List.getElem_cons_zero, List.getElem_cons_succ]
                              refine wpAnyH_ready (rs := [12]) (by kernel_rfl) (by simp) ?_
                              refine AllReadyH.cons rfl (fun K5 hK5 => ?_) AllReadyH.nil
                              go_simp
                              go_at_call 25
                              (with_reducible refine (HLO.out _ HZ2.out.drew).mono ?_)
                              rintro e w5 ⟨vl, rfl, h1, h2⟩
                              have RA := Lib.hid (reads_ownv h1)
                              obtain ⟨A5, c5, rfl⟩ := own_slw h1
                              have Z5 := Lib.hid (HZ2.out.drew.below h2)
                              have B5 := Lib.hid (below_step (Below.refl _ wr).drew h2)
                              have G5 := Lib.hid (HG2.out.below B5.out)
                              have hS1 : (fun w' : World => w'.cell? ⟨gb, gO + p * 4 + 3, none⟩ = some (.bool dn) ∧ w'.cell? ⟨gb, gO + p * 4 + 1, none⟩ = some (.slice lA ln lc) ∧ w'.cell? ⟨sb, so + p, none⟩ = some (.int .i64 sz)) w5 := ⟨cellB d3 B5.out, cellB d1 B5.out, cellB ds B5.out⟩
                              clear h1 h2
                              refine hK5.out _ _ hS1 (fun _ => ?_)
                              clear hK5 K5
                              refine wpAnyH_ready (rs := [18]) (by kernel_rfl) (by simp) ?_
                              refine AllReadyH.cons rfl (fun K5 hK5 => ?_) AllReadyH.nil
                              go_simp
                              go_at_call 26
                              (with_reducible refine (HPG.out _ B5.out).mono ?_)
                              rintro e w6 ⟨vl, rfl, h1, h2⟩
                              have RB := Lib.hid (reads_ownv h1)
                              obtain ⟨A6, c6, rfl⟩ := own_slw h1
                              have RA2 := Lib.hid ((RA.out _ _ rfl).keep_ h2)
                              have Z6 := Lib.hid (Z5.out.below h2)
                              have B6 := Lib.hid (below_step B5.out h2)
                              have hS2 : (fun w' : World => w'.cell? ⟨gb, gO + p * 4 + 3, none⟩ = some (.bool dn) ∧ w'.cell? ⟨gb, gO + p * 4 + 1, none⟩ = some (.slice lA ln lc) ∧ w'.cell? ⟨sb, so + p, none⟩ = some (.int .i64 sz)) w6 := ⟨cellB d3 B6.out, cellB d1 B6.out, cellB ds B6.out⟩
                              clear h1 h2
                              refine hK5.out _ _ hS2 (fun _ => ?_)
                              clear hK5 K5
                              refine wpAnyH_ready (rs := [19]) (by kernel_rfl) (by simp) ?_
                              refine AllReadyH.cons rfl (fun K5 hK5 => ?_) AllReadyH.nil
                              go_simp
                              go_at_call 24
                              (with_reducible refine (r3Ints_z lz _ _ _ _ _ w6 rfl RA2.out (RB.out _ _ rfl) HLL.out).mono ?_)
                              rintro e w7 ⟨rfl, h1⟩
                              have Z7 := Lib.hid (Z6.out.below h1)
                              have B7 := Lib.hid (below_step B6.out h1)
                              have G7 := Lib.hid (HG2.out.below B7.out)
                              have hS3 : (fun w' : World => w'.cell? ⟨gb, gO + p * 4 + 3, none⟩ = some (.bool dn) ∧ w'.cell? ⟨gb, gO + p * 4 + 1, none⟩ = some (.slice lA ln lc) ∧ w'.cell? ⟨sb, so + p, none⟩ = some (.int .i64 sz)) w7 := ⟨cellB d3 B7.out, cellB d1 B7.out, cellB ds B7.out⟩
                              clear h1
                              refine hK5.out _ _ hS3 (fun _ => ?_)
                              clear hK5 K5
                              refine wpAnyH_take (i := 20) (v := .bool false) rfl (by kernel_rfl) (by kernel_rfl) (by kernel_rfl) (fun _ _ _ h => h) (Or.inl ⟨by rfl, ?_⟩) hS3 ?_
                              · rintro w6 ⟨s1, s2, s3⟩
                                go_simp
                              simp only [Act.put, List.setIfInBounds_toArray, List.set_cons_zero, List.set_cons_succ, List.getElem_toArray, List.getElem_cons_zero, List.getElem_cons_succ]
                              refine wpAnyH_take (i := 21) (v := .bool false) rfl (by kernel_rfl) (by kernel_rfl) (by kernel_rfl) (fun _ _ _ h => h) (Or.inl ⟨by rfl, ?_⟩) hS3 ?_
                              · rintro w6 ⟨s1, s2, s3⟩
                                go_simp
                              simp only [Act.put, List.setIfInBounds_toArray, List.set_cons_zero, List.set_cons_succ, List.getElem_toArray, List.getElem_cons_zero, List.getElem_cons_succ]
                              refine wpAnyH_take (i := 22) (v := .bool false) rfl (by kernel_rfl) (by kernel_rfl) (by kernel_rfl) (fun _ _ _ h => h) (Or.inl ⟨by rfl, ?_⟩) hS3 ?_
                              · rintro w6 ⟨s1, s2, s3⟩
                                go_simp
                              simp only [Act.put, List.setIfInBounds_toArray, List.set_cons_zero, List.set_cons_succ, List.getElem_toArray, List.getElem_cons_zero, List.getElem_cons_succ]
                              refine wpAnyH_take (i := 23) (v := .pointer (some ⟨D, 0, none⟩)) rfl (by kernel_rfl) (by kernel_rfl) (by kernel_rfl) (fun _ _ _ h => h) (Or.inl ⟨by rfl, ?_⟩) hS3 ?_
                              · rintro w6 ⟨s1, s2, s3⟩
                                go_simp
                              simp only [Act.put, List.setIfInBounds_toArray, List.set_cons_zero, List.set_cons_succ, List.getElem_toArray, List.getElem_cons_zero, List.getElem_cons_succ]
                              refine wpAnyH_take (i := 24) (v := .int .i64 (p : Int)) rfl (by kernel_rfl) (by kernel_rfl) (by kernel_rfl) (fun _ _ _ h => h) (Or.inl ⟨by rfl, ?_⟩) hS3 ?_
                              · rintro w6 ⟨s1, s2, s3⟩
                                go_simp
                              simp only [Act.put, List.setIfInBounds_toArray, List.set_cons_zero, List.set_cons_succ, List.getElem_toArray, List.getElem_cons_zero, List.getElem_cons_succ]
                              refine wpAnyH_take (i := 26) (v := .slice (some ⟨sb, so, none⟩) m c0) rfl (by kernel_rfl) (by kernel_rfl) (by kernel_rfl) (fun _ _ _ h => h) (Or.inl ⟨by rfl, ?_⟩) hS3 ?_
                              · rintro w6 ⟨s1, s2, s3⟩
                                go_simp
                              simp only [Act.put, List.setIfInBounds_toArray, List.set_cons_zero, List.set_cons_succ, List.getElem_toArray, List.getElem_cons_zero, List.getElem_cons_succ]
                              refine wpAnyH_take (i := 27) (v := .int .i64 (p : Int)) rfl (by kernel_rfl) (by kernel_rfl) (by kernel_rfl) (fun _ _ _ h => h) (Or.inl ⟨by rfl, ?_⟩) hS3 ?_
                              · rintro w6 ⟨s1, s2, s3⟩
                                go_simp
                              simp only [Act.put, List.setIfInBounds_toArray, List.set_cons_zero, List.set_cons_succ, List.getElem_toArray, List.getElem_cons_zero, List.getElem_cons_succ]
                              refine wpAnyH_take (i := 28) (v := .pointer (some ⟨sb, so + p, none⟩)) rfl (by kernel_rfl) (by kernel_rfl) (by kernel_rfl) (fun _ _ _ h => h) (Or.inl ⟨by rfl, ?_⟩) hS3 ?_
                              · rintro w6 ⟨s1, s2, s3⟩
                                go_simp
                              simp only [Act.put, List.setIfInBounds_toArray, List.set_cons_zero, List.set_cons_succ, List.getElem_toArray, List.getElem_cons_zero, List.getElem_cons_succ]
                              refine wpAnyH_take (i := 29) (v := .int .i64 sz) rfl (by kernel_rfl) (by kernel_rfl) (by kernel_rfl) (fun _ _ _ h => h) (Or.inl ⟨by rfl, ?_⟩) hS3 ?_
                              · rintro w6 ⟨s1, s2, s3⟩
                                go_simp
                              simp only [Act.put, List.setIfInBounds_toArray, List.set_cons_zero, List.set_cons_succ, List.getElem_toArray, List.getElem_cons_zero, List.getElem_cons_succ]
                              refine wpAnyH_ready (rs := [25]) (by kernel_rfl) (by simp) ?_
                              refine AllReadyH.cons rfl (fun K5 hK5 => ?_) AllReadyH.nil
                              go_simp
                              go_at_call 27
                              (with_reducible refine (HLE.out _ Z7.out).mono ?_)
                              rintro e w8 ⟨rfl, rfl⟩
                              refine hK5.out _ _ hS3 (fun _ => ?_)
                              clear hK5 K5
                              refine wpAnyH_take (i := 30) (v := .bool false) rfl (by kernel_rfl) (by kernel_rfl) (by kernel_rfl) (fun _ _ _ h => h) (Or.inl ⟨by rfl, ?_⟩) hS3 ?_
                              · rintro w6 ⟨s1, s2, s3⟩
                                go_simp
                              simp only [Act.put, List.setIfInBounds_toArray, List.set_cons_zero, List.set_cons_succ, List.getElem_toArray, List.getElem_cons_zero, List.getElem_cons_succ]
                              refine wpAnyH_take (i := 31) (v := .bool false) rfl (by kernel_rfl) (by kernel_rfl) (by kernel_rfl) (fun _ _ _ h => h) (Or.inl ⟨by rfl, ?_⟩) hS3 ?_
                              · rintro w6 ⟨s1, s2, s3⟩
                                go_simp
                              simp only [Act.put, List.setIfInBounds_toArray, List.set_cons_zero, List.set_cons_succ, List.getElem_toArray, List.getElem_cons_zero, List.getElem_cons_succ]
                              refine wpAnyH_done (by kernel_rfl) ?_ _
                              refine hK _ _ ?_
                              go_wp2
                              go_roundw
                              case rel => exact ⟨p + 1, by omega, by go_num, Z7.out, G7.out⟩
                              case measure => simp [intOf]; omega
                            · obtain rfl : p = m := by omega
                              go_wp2
                              go_roundw
                              case rel => exact ⟨k + 1, gs, T, A', c', by omega, by go_num, rfl, HZ2.out, HG2.out, HSZ.out⟩
                              case measure => simp [intOf]; omega
                        · have HE := Lib.hid he
                          have hle := HNO.out he
                          subst hle
                          clear he
                          go_wp2_with (first
                            | (go_at_call 21; (with_reducible refine (HRD.out _ Z1.out).mono ?_); intro e w3 hr; obtain ⟨h1, rfl⟩ := rd_no HE.out hr; have Z3 := Lib.hid (Z1.out.below h1); have G3 := Lib.hid (G1.out.below h1); have X3 := Lib.hid (X1.out.below h1); have q2 := X3.out.has.cell 2; simp only [Sx.cells, List.getElem?_toArray, List.getElem?_cons_succ, List.getElem?_cons_zero] at q2; clear hr h1)
                            | (go_at_call 22; (with_reducible refine (HRE.out _ G3.out).mono ?_); rintro e w5 ⟨rfl, h1⟩; have Z5 := Lib.hid ((Z3.out.below h1).more (Nat.le_succ k)); have G5 := Lib.hid (G3.out.below h1); have sx := str_reads (w := w5) (n := 0) (c := 0) (A := none) (l := []) rfl Reads.empty; clear h1))
                          go_loopw [20] (fun q wr => ∃ p : Nat, p ≤ m ∧ q = .int .i64 (p : Int) ∧ Dz w wr T 0 D DA (k + 1) (rgs gs) ∧ GA wr T A' m c' gs) (fun q _ => m - (intOf q).toNat)
                          case atStart => exact ⟨0, Nat.zero_le _, rfl, Z5.out, G5.out⟩
                          case round =>
                            obtain ⟨p, hp0, rfl, hz, hg⟩ := hrel
                            have HZ2 := Lib.hid hz
                            have HG2 := Lib.hid hg
                            clear hz hg
                            by_cases hp : p < m
                            · obtain ⟨gb, gO, sb, so, dn, lA, lc, ln, lz, sz, rfl, rfl, d1, d3, ds, HDN, HLO, HPG, HLE, HLL⟩ := tail_facts HZ2.out HG2.out HI.out HNB.out HSZ.out hp (by omega)
                              have p1 : (p : Int) < (m : Int) := by omega
                              have p2 : (0 : Int) ≤ (p : Int) := by omega
                              have hS : (fun w' : World => w'.cell? ⟨gb, gO + p * 4 + 3, none⟩ = some (.bool dn) ∧ w'.cell? ⟨gb, gO + p * 4 + 1, none⟩ = some (.slice lA ln lc) ∧ w'.cell? ⟨sb, so + p, none⟩ = some (.int .i64 sz)) wr.drew := ⟨d3, d1, ds⟩
                              go_wp2
                              rename_i K hK
                              refine wp_held (fun w' : World => w'.cell? ⟨gb, gO + p * 4 + 3, none⟩ = some (.bool dn) ∧ w'.cell? ⟨gb, gO + p * 4 + 1, none⟩ = some (.slice lA ln lc) ∧ w'.cell? ⟨sb, so + p, none⟩ = some (.int .i64 sz)) K hmx ?_ (fun _ _ h => h)
                              refine wpAnyH_take (i := 0) (v := .pointer (some ⟨D, 0, none⟩)) rfl (by kernel_rfl) (by kernel_rfl) (by kernel_rfl) (fun _ _ _ h => h) (Or.inl ⟨by rfl, ?_⟩) hS ?_
                              · rintro w6 ⟨s1, s2, s3⟩
                                go_simp
                              simp only [Act.put, List.setIfInBounds_toArray, List.set_cons_zero, List.set_cons_succ, List.getElem_toArray, List.getElem_cons_zero]
                              refine wpAnyH_take (i := 1) (v := .int .i64 (p : Int)) rfl (by kernel_rfl) (by kernel_rfl) (by kernel_rfl) (fun _ _ _ h => h) (Or.inl ⟨by rfl, ?_⟩) hS ?_
                              · rintro w6 ⟨s1, s2, s3⟩
                                go_simp
                              simp only [Act.put, List.setIfInBounds_toArray, List.set_cons_zero, List.set_cons_succ, List.getElem_toArray, List.getElem_cons_zero, List.getElem_cons_succ]
                              refine wpAnyH_take (i := 3) (v := .slice (some ⟨gb, gO, none⟩) m c') rfl (by kernel_rfl) (by kernel_rfl) (by kernel_rfl) (fun _ _ _ h => h) (Or.inl ⟨by rfl, ?_⟩) hS ?_
                              · rintro w6 ⟨s1, s2, s3⟩
                                go_simp
                              simp only [Act.put, List.setIfInBounds_toArray, List.set_cons_zero, List.set_cons_succ, List.getElem_toArray, List.getElem_cons_zero, List.getElem_cons_succ]
                              refine wpAnyH_take (i := 4) (v := .int .i64 (p : Int)) rfl (by kernel_rfl) (by kernel_rfl) (by kernel_rfl) (fun _ _ _ h => h) (Or.inl ⟨by rfl, ?_⟩) hS ?_
                              · rintro w6 ⟨s1, s2, s3⟩
                                go_simp
                              simp only [Act.put, List.setIfInBounds_toArray, List.set_cons_zero, List.set_cons_succ, List.getElem_toArray, List.getElem_cons_zero, List.getElem_cons_succ]
                              refine wpAnyH_take (i := 5) (v := .pointer (some ⟨gb, gO + p * 4, none⟩)) rfl (by kernel_rfl) (by kernel_rfl) (by kernel_rfl) (fun _ _ _ h => h) (Or.inl ⟨by rfl, ?_⟩) hS ?_
                              · rintro w6 ⟨s1, s2, s3⟩
                                go_simp
                              simp only [Act.put, List.setIfInBounds_toArray, List.set_cons_zero, List.set_cons_succ, List.getElem_toArray, List.getElem_cons_zero, List.getElem_cons_succ]
                              refine wpAnyH_take (i := 6) (v := .pointer (some ⟨gb, gO + p * 4 + 3, none⟩)) rfl (by kernel_rfl) (by kernel_rfl) (by kernel_rfl) (fun _ _ _ h => h) (Or.inl ⟨by rfl, ?_⟩) hS ?_
                              · rintro w6 ⟨s1, s2, s3⟩
                                go_simp
                              simp only [Act.put, List.setIfInBounds_toArray, List.set_cons_zero, List.set_cons_succ, List.getElem_toArray, List.getElem_cons_zero, List.getElem_cons_succ]
                              refine wpAnyH_take (i := 7) (v := .bool dn) rfl (by kernel_rfl) (by kernel_rfl) (by kernel_rfl) (fun _ _ _ h => h) (Or.inl ⟨by rfl, ?_⟩) hS ?_
                              · rintro w6 ⟨s1, s2, s3⟩
                                go_simp
                              simp only [Act.put, List.setIfInBounds_toArray, List.set_cons_zero, List.set_cons_succ, List.getElem_toArray, List.getElem_cons_zero, List.getElem_cons_succ]
                              refine wpAnyH_ready (rs := [2]) (by kernel_rfl) (by simp) ?_
                              refine AllReadyH.cons rfl (fun K5 hK5 => ?_) AllReadyH.nil
                              go_simp
                              go_at_call 23
                              (with_reducible refine (HDN.out _ HZ2.out.drew).mono ?_)
                              rintro e w5 ⟨rfl, rfl⟩
                              refine hK5.out _ _ hS (fun _ => ?_)
                              clear hK5 K5
                              refine wpAnyH_take (i := 8) (v := .bool false) rfl (by kernel_rfl) (by kernel_rfl) (by kernel_rfl) (fun _ _ _ h => h) (Or.inl ⟨by rfl, ?_⟩) hS ?_
                              · rintro w6 ⟨s1, s2, s3⟩
                                go_simp
                              simp only [Act.put, List.setIfInBounds_toArray, List.set_cons_zero, List.set_cons_succ, List.getElem_toArray, List.getElem_cons_zero, List.getElem_cons_succ]
                              refine wpAnyH_take (i := 9) (v := .bool false) rfl (by kernel_rfl) (by kernel_rfl) (by kernel_rfl) (fun _ _ _ h => h) (Or.inl ⟨by rfl, ?_⟩) hS ?_
                              · rintro w6 ⟨s1, s2, s3⟩
                                go_simp
                              simp only [Act.put, List.setIfInBounds_toArray, List.set_cons_zero, List.set_cons_succ, List.getElem_toArray, List.getElem_cons_zero, List.getElem_cons_succ]
                              refine wpAnyH_take (i := 10) (v := .pointer (some ⟨D, 0, none⟩)) rfl (by kernel_rfl) (by kernel_rfl) (by kernel_rfl) (fun _ _ _ h => h) (Or.inl ⟨by rfl, ?_⟩) hS ?_
                              · rintro w6 ⟨s1, s2, s3⟩
                                go_simp
                              simp only [Act.put, List.setIfInBounds_toArray, List.set_cons_zero, List.set_cons_succ, List.getElem_toArray, List.getElem_cons_zero, List.getElem_cons_succ]
                              refine wpAnyH_take (i := 11) (v := .int .i64 (p : Int)) rfl (by kernel_rfl) (by kernel_rfl) (by kernel_rfl) (fun _ _ _ h => h) (Or.inl ⟨by rfl, ?_⟩) hS ?_
                              · rintro w6 ⟨s1, s2, s3⟩
                                go_simp
                              simp only [Act.put, List.setIfInBounds_toArray, List.set_cons_zero, List.set_cons_succ, List.getElem_toArray, List.getElem_cons_zero, List.getElem_cons_succ]
                              refine wpAnyH_take (i := 13) (v := .slice (some ⟨gb, gO, none⟩) m c') rfl (by kernel_rfl) (by kernel_rfl) (by kernel_rfl) (fun _ _ _ h => h) (Or.inl ⟨by rfl, ?_⟩) hS ?_
                              · rintro w6 ⟨s1, s2, s3⟩
                                go_simp
                              simp only [Act.put, List.setIfInBounds_toArray, List.set_cons_zero, List.set_cons_succ, List.getElem_toArray, List.getElem_cons_zero, List.getElem_cons_succ]
                              refine wpAnyH_take (i := 14) (v := .int .i64 (p : Int)) rfl (by kernel_rfl) (by kernel_rfl) (by kernel_rfl) (fun _ _ _ h => h) (Or.inl ⟨by rfl, ?_⟩) hS ?_
                              · rintro w6 ⟨s1, s2, s3⟩
                                go_simp
                              simp only [Act.put, List.setIfInBounds_toArray, List.set_cons_zero, List.set_cons_succ, List.getElem_toArray, List.getElem_cons_zero, List.getElem_cons_succ]
                              refine wpAnyH_take (i := 15) (v := .pointer (some ⟨gb, gO + p * 4, none⟩)) rfl (by kernel_rfl) (by kernel_rfl) (by kernel_rfl) (fun _ _ _ h => h) (Or.inl ⟨by rfl, ?_⟩) hS ?_
                              · rintro w6 ⟨s1, s2, s3⟩
                                go_simp
                              simp only [Act.put, List.setIfInBounds_toArray, List.set_cons_zero, List.set_cons_succ, List.getElem_toArray, List.getElem_cons_zero, List.getElem_cons_succ]
                              refine wpAnyH_take (i := 16) (v := .pointer (some ⟨gb, gO + p * 4 + 1, none⟩)) rfl (by kernel_rfl) (by kernel_rfl) (by kernel_rfl) (fun _ _ _ h => h) (Or.inl ⟨by rfl, ?_⟩) hS ?_
                              · rintro w6 ⟨s1, s2, s3⟩
                                go_simp
                              simp only [Act.put, List.setIfInBounds_toArray, List.set_cons_zero, List.set_cons_succ, List.getElem_toArray, List.getElem_cons_zero, List.getElem_cons_succ]
                              refine wpAnyH_take (i := 17) (v := .slice lA ln lc) rfl (by kernel_rfl) (by kernel_rfl) (by kernel_rfl) (fun _ _ _ h => h) (Or.inl ⟨by rfl, ?_⟩) hS ?_
                              · rintro w6 ⟨s1, s2, s3⟩
                                go_simp
                              simp only [Act.put, List.setIfInBounds_toArray, List.set_cons_zero, List.set_cons_succ, List.getElem_toArray, List.getElem_cons_zero, List.getElem_cons_succ]
                              refine wpAnyH_ready (rs := [12]) (by kernel_rfl) (by simp) ?_
                              refine AllReadyH.cons rfl (fun K5 hK5 => ?_) AllReadyH.nil
                              go_simp
                              go_at_call 25
                              (with_reducible refine (HLO.out _ HZ2.out.drew).mono ?_)
                              rintro e w5 ⟨vl, rfl, h1, h2⟩
                              have RA := Lib.hid (reads_ownv h1)
                              obtain ⟨A5, c5, rfl⟩ := own_slw h1
                              have Z5 := Lib.hid (HZ2.out.drew.below h2)
                              have B5 := Lib.hid (below_step (Below.refl _ wr).drew h2)
                              have G5 := Lib.hid (HG2.out.below B5.out)
                              have hS1 : (fun w' : World => w'.cell? ⟨gb, gO + p * 4 + 3, none⟩ = some (.bool dn) ∧ w'.cell? ⟨gb, gO + p * 4 + 1, none⟩ = some (.slice lA ln lc) ∧ w'.cell? ⟨sb, so + p, none⟩ = some (.int .i64 sz)) w5 := ⟨cellB d3 B5.out, cellB d1 B5.out, cellB ds B5.out⟩
                              clear h1 h2
                              refine hK5.out _ _ hS1 (fun _ => ?_)
                              clear hK5 K5
                              refine wpAnyH_ready (rs := [18]) (by kernel_rfl) (by simp) ?_
                              refine AllReadyH.cons rfl (fun K5 hK5 => ?_) AllReadyH.nil
                              go_simp
                              go_at_call 26
                              (with_reducible refine (HPG.out _ B5.out).mono ?_)
                              rintro e w6 ⟨vl, rfl, h1, h2⟩
                              have RB := Lib.hid (reads_ownv h1)
                              obtain ⟨A6, c6, rfl⟩ := own_slw h1
                              have RA2 := Lib.hid ((RA.out _ _ rfl).keep_ h2)
                              have Z6 := Lib.hid (Z5.out.below h2)
                              have B6 := Lib.hid (below_step B5.out h2)
                              have hS2 : (fun w' : World => w'.cell? ⟨gb, gO + p * 4 + 3, none⟩ = some (.bool dn) ∧ w'.cell? ⟨gb, gO + p * 4 + 1, none⟩ = some (.slice lA ln lc) ∧ w'.cell? ⟨sb, so + p, none⟩ = some (.int .i64 sz)) w6 := ⟨cellB d3 B6.out, cellB d1 B6.out, cellB ds B6.out⟩
                              clear h1 h2
                              refine hK5.out _ _ hS2 (fun _ => ?_)
                              clear hK5 K5
                              refine wpAnyH_ready (rs := [19]) (by kernel_rfl) (by simp) ?_
                              refine AllReadyH.cons rfl (fun K5 hK5 => ?_) AllReadyH.nil
                              go_simp
                              go_at_call 24
                              (with_reducible refine (r3Ints_z lz _ _ _ _ _ w6 rfl RA2.out (RB.out _ _ rfl) HLL.out).mono ?_)
                              rintro e w7 ⟨rfl, h1⟩
                              have Z7 := Lib.hid (Z6.out.below h1)
                              have B7 := Lib.hid (below_step B6.out h1)
                              have G7 := Lib.hid (HG2.out.below B7.out)
                              have hS3 : (fun w' : World => w'.cell? ⟨gb, gO + p * 4 + 3, none⟩ = some (.bool dn) ∧ w'.cell? ⟨gb, gO + p * 4 + 1, none⟩ = some (.slice lA ln lc) ∧ w'.cell? ⟨sb, so + p, none⟩ = some (.int .i64 sz)) w7 := ⟨cellB d3 B7.out, cellB d1 B7.out, cellB ds B7.out⟩
                              clear h1
                              refine hK5.out _ _ hS3 (fun _ => ?_)
                              clear hK5 K5
                              refine wpAnyH_take (i := 20) (v := .bool false) rfl (by kernel_rfl) (by kernel_rfl) (by kernel_rfl) (fun _ _ _ h => h) (Or.inl ⟨by rfl, ?_⟩) hS3 ?_
                              · rintro w6 ⟨s1, s2, s3⟩
                                go_simp
                              simp only [Act.put, List.setIfInBounds_toArray, List.set_cons_zero, List.set_cons_succ, List.getElem_toArray, List.getElem_cons_zero, List.getElem_cons_succ]
                              refine wpAnyH_take (i := 21) (v := .bool false) rfl (by kernel_rfl) (by kernel_rfl) (by kernel_rfl) (fun _ _ _ h => h) (Or.inl ⟨by rfl, ?_⟩) hS3 ?_
                              · rintro w6 ⟨s1, s2, s3⟩
                                go_simp
                              simp only [Act.put, List.setIfInBounds_toArray, List.set_cons_zero, List.set_cons_succ, List.getElem_toArray, List.getElem_cons_zero, List.getElem_cons_succ]
                              refine wpAnyH_take (i := 22) (v := .bool false) rfl (by kernel_rfl) (by kernel_rfl) (by kernel_rfl) (fun _ _ _ h => h) (Or.inl ⟨by rfl, ?_⟩) hS3 ?_
                              · rintro w6 ⟨s1, s2, s3⟩
                                go_simp
                              simp only [Act.put, List.setIfInBounds_toArray, List.set_cons_zero, List.set_cons_succ, List.getElem_toArray, List.getElem_cons_zero, List.getElem_cons_succ]
                              refine wpAnyH_take (i := 23) (v := .pointer (some ⟨D, 0, none⟩)) rfl (by kernel_rfl) (by kernel_rfl) (by kernel_rfl) (fun _ _ _ h => h) (Or.inl ⟨by rfl, ?_⟩) hS3 ?_
                              · rintro w6 ⟨s1, s2, s3⟩
                                go_simp
                              simp only [Act.put, List.setIfInBounds_toArray, List.set_cons_zero, List.set_cons_succ, List.getElem_toArray, List.getElem_cons_zero, List.getElem_cons_succ]
                              refine wpAnyH_take (i := 24) (v := .int .i64 (p : Int)) rfl (by kernel_rfl) (by kernel_rfl) (by kernel_rfl) (fun _ _ _ h => h) (Or.inl ⟨by rfl, ?_⟩) hS3 ?_
                              · rintro w6 ⟨s1, s2, s3⟩
                                go_simp
                              simp only [Act.put, List.setIfInBounds_toArray, List.set_cons_zero, List.set_cons_succ, List.getElem_toArray, List.getElem_cons_zero, List.getElem_cons_succ]
                              refine wpAnyH_take (i := 26) (v := .slice (some ⟨sb, so, none⟩) m c0) rfl (by kernel_rfl) (by kernel_rfl) (by kernel_rfl) (fun _ _ _ h => h) (Or.inl ⟨by rfl, ?_⟩) hS3 ?_
                              · rintro w6 ⟨s1, s2, s3⟩
                                go_simp
                              simp only [Act.put, List.setIfInBounds_toArray, List.set_cons_zero, List.set_cons_succ, List.getElem_toArray, List.getElem_cons_zero, List.getElem_cons_succ]
                              refine wpAnyH_take (i := 27) (v := .int .i64 (p : Int)) rfl (by kernel_rfl) (by kernel_rfl) (by kernel_rfl) (fun _ _ _ h => h) (Or.inl ⟨by rfl, ?_⟩) hS3 ?_
                              · rintro w6 ⟨s1, s2, s3⟩
                                go_simp
                              simp only [Act.put, List.setIfInBounds_toArray, List.set_cons_zero, List.set_cons_succ, List.getElem_toArray, List.getElem_cons_zero, List.getElem_cons_succ]
                              refine wpAnyH_take (i := 28) (v := .pointer (some ⟨sb, so + p, none⟩)) rfl (by kernel_rfl) (by kernel_rfl) (by kernel_rfl) (fun _ _ _ h => h) (Or.inl ⟨by rfl, ?_⟩) hS3 ?_
                              · rintro w6 ⟨s1, s2, s3⟩
                                go_simp
                              simp only [Act.put, List.setIfInBounds_toArray, List.set_cons_zero, List.set_cons_succ, List.getElem_toArray, List.getElem_cons_zero, List.getElem_cons_succ]
                              refine wpAnyH_take (i := 29) (v := .int .i64 sz) rfl (by kernel_rfl) (by kernel_rfl) (by kernel_rfl) (fun _ _ _ h => h) (Or.inl ⟨by rfl, ?_⟩) hS3 ?_
                              · rintro w6 ⟨s1, s2, s3⟩
                                go_simp
                              simp only [Act.put, List.setIfInBounds_toArray, List.set_cons_zero, List.set_cons_succ, List.getElem_toArray, List.getElem_cons_zero, List.getElem_cons_succ]
                              refine wpAnyH_ready (rs := [25]) (by kernel_rfl) (by simp) ?_
                              refine AllReadyH.cons rfl (fun K5 hK5 => ?_) AllReadyH.nil
                              go_simp
                              go_at_call 27
                              (with_reducible refine (HLE.out _ Z7.out).mono ?_)
                              rintro e w8 ⟨rfl, rfl⟩
                              refine hK5.out _ _ hS3 (fun _ => ?_)
                              clear hK5 K5
                              refine wpAnyH_take (i := 30) (v := .bool false) rfl (by kernel_rfl) (by kernel_rfl) (by kernel_rfl) (fun _ _ _ h => h) (Or.inl ⟨by rfl, ?_⟩) hS3 ?_
                              · rintro w6 ⟨s1, s2, s3⟩
                                go_simp
                              simp only [Act.put, List.setIfInBounds_toArray, List.set_cons_zero, List.set_cons_succ, List.getElem_toArray, List.getElem_cons_zero, List.getElem_cons_succ]
                              refine wpAnyH_take (i := 31) (v := .bool false) rfl (by kernel_rfl) (by kernel_rfl) (by kernel_rfl) (fun _ _ _ h => h) (Or.inl ⟨by rfl, ?_⟩) hS3 ?_
                              · rintro w6 ⟨s1, s2, s3⟩
                                go_simp
                              simp only [Act.put, List.setIfInBounds_toArray, List.set_cons_zero, List.set_cons_succ, List.getElem_toArray, List.getElem_cons_zero, List.getElem_cons_succ]
                              refine wpAnyH_done (by kernel_rfl) ?_ _
                              refine hK _ _ ?_
                              go_wp2
                              go_roundw
                              case rel => exact ⟨p + 1, by omega, by go_num, Z7.out, G7.out⟩
                              case measure => simp [intOf]; omega
                            · obtain rfl : p = m := by omega
                              go_wp2
                              go_roundw
                              case rel => exact ⟨k + 1, gs, T, A', c', by omega, by go_num, rfl, HZ2.out, HG2.out, HSZ.out⟩
                              case measure => simp [intOf]; omega
                    · have e4 : (x.s.kind == 4) = false := by simpa using k4
                      clear k4
                      as_aux_lemma =>
                        have Z5 := Lib.hid (Z1.out.more (Nat.le_succ k))
                        go_wp2
                        go_loopw [20] (fun q wr => ∃ p : Nat, p ≤ m ∧ q = .int .i64 (p : Int) ∧ Dz w wr T 0 D DA (k + 1) (rgs gs) ∧ GA wr T A' m c' gs) (fun q _ => m - (intOf q).toNat)
                        case atStart => exact ⟨0, Nat.zero_le _, rfl, Z5.out, G1.out⟩
                        case round =>
                          obtain ⟨p, hp0, rfl, hz, hg⟩ := hrel
                          have HZ2 := Lib.hid hz
                          have HG2 := Lib.hid hg
                          clear hz hg
                          by_cases hp : p < m
                          · obtain ⟨gb, gO, sb, so, dn, lA, lc, ln, lz, sz, rfl, rfl, d1, d3, ds, HDN, HLO, HPG, HLE, HLL⟩ := tail_facts HZ2.out HG2.out HI.out HNB.out HSZ.out hp (by omega)
                            have p1 : (p : Int) < (m : Int) := by omega
                            have p2 : (0 : Int) ≤ (p : Int) := by omega
                            have hS : (fun w' : World => w'.cell? ⟨gb, gO + p * 4 + 3, none⟩ = some (.bool dn) ∧ w'.cell? ⟨gb, gO + p * 4 + 1, none⟩ = some (.slice lA ln lc) ∧ w'.cell? ⟨sb, so + p, none⟩ = some (.int .i64 sz)) wr.drew := ⟨d3, d1, ds⟩
                            go_wp2
                            rename_i K hK
                            refine wp_held (fun w' : World => w'.cell? ⟨gb, gO + p * 4 + 3, none⟩ = some (.bool dn) ∧ w'.cell? ⟨gb, gO + p * 4 + 1, none⟩ = some (.slice lA ln lc) ∧ w'.cell? ⟨sb, so + p, none⟩ = some (.int .i64 sz)) K hmx ?_ (fun _ _ h => h)
                            refine wpAnyH_take (i := 0) (v := .pointer (some ⟨D, 0, none⟩)) rfl (by kernel_rfl) (by kernel_rfl) (by kernel_rfl) (fun _ _ _ h => h) (Or.inl ⟨by rfl, ?_⟩) hS ?_
                            · rintro w6 ⟨s1, s2, s3⟩
                              go_simp
                            simp only [Act.put, List.setIfInBounds_toArray, List.set_cons_zero, List.set_cons_succ, List.getElem_toArray, List.getElem_cons_zero]
                            refine wpAnyH_take (i := 1) (v := .int .i64 (p : Int)) rfl (by kernel_rfl) (by kernel_rfl) (by kernel_rfl) (fun _ _ _ h => h) (Or.inl ⟨by rfl, ?_⟩) hS ?_
                            · rintro w6 ⟨s1, s2, s3⟩
                              go_simp
                            simp only [Act.put, List.setIfInBounds_toArray, List.set_cons_zero, List.set_cons_succ, List.getElem_toArray, List.getElem_cons_zero, List.getElem_cons_succ]
                            refine wpAnyH_take (i := 3) (v := .slice (some ⟨gb, gO, none⟩) m c') rfl (by kernel_rfl) (by kernel_rfl) (by kernel_rfl) (fun _ _ _ h => h) (Or.inl ⟨by rfl, ?_⟩) hS ?_
                            · rintro w6 ⟨s1, s2, s3⟩
                              go_simp
                            simp only [Act.put, List.setIfInBounds_toArray, List.set_cons_zero, List.set_cons_succ, List.getElem_toArray, List.getElem_cons_zero, List.getElem_cons_succ]
                            refine wpAnyH_take (i := 4) (v := .int .i64 (p : Int)) rfl (by kernel_rfl) (by kernel_rfl) (by kernel_rfl) (fun _ _ _ h => h) (Or.inl ⟨by rfl, ?_⟩) hS ?_
                            · rintro w6 ⟨s1, s2, s3⟩
                              go_simp
                            simp only [Act.put, List.setIfInBounds_toArray, List.set_cons_zero, List.set_cons_succ, List.getElem_toArray, List.getElem_cons_zero, List.getElem_cons_succ]
                            refine wpAnyH_take (i := 5) (v := .pointer (some ⟨gb, gO + p * 4, none⟩)) rfl (by kernel_rfl) (by kernel_rfl) (by kernel_rfl) (fun _ _ _ h => h) (Or.inl ⟨by rfl, ?_⟩) hS ?_
                            · rintro w6 ⟨s1, s2, s3⟩
                              go_simp
                            simp only [Act.put, List.setIfInBounds_toArray, List.set_cons_zero, List.set_cons_succ, List.getElem_toArray, List.getElem_cons_zero, List.getElem_cons_succ]
                            refine wpAnyH_take (i := 6) (v := .pointer (some ⟨gb, gO + p * 4 + 3, none⟩)) rfl (by kernel_rfl) (by kernel_rfl) (by kernel_rfl) (fun _ _ _ h => h) (Or.inl ⟨by rfl, ?_⟩) hS ?_
                            · rintro w6 ⟨s1, s2, s3⟩
                              go_simp
                            simp only [Act.put, List.setIfInBounds_toArray, List.set_cons_zero, List.set_cons_succ, List.getElem_toArray, List.getElem_cons_zero, List.getElem_cons_succ]
                            refine wpAnyH_take (i := 7) (v := .bool dn) rfl (by kernel_rfl) (by kernel_rfl) (by kernel_rfl) (fun _ _ _ h => h) (Or.inl ⟨by rfl, ?_⟩) hS ?_
                            · rintro w6 ⟨s1, s2, s3⟩
                              go_simp
                            simp only [Act.put, List.setIfInBounds_toArray, List.set_cons_zero, List.set_cons_succ, List.getElem_toArray, List.getElem_cons_zero, List.getElem_cons_succ]
                            refine wpAnyH_ready (rs := [2]) (by kernel_rfl) (by simp) ?_
                            refine AllReadyH.cons rfl (fun K5 hK5 => ?_) AllReadyH.nil
                            go_simp
                            go_at_call 23
                            (with_reducible refine (HDN.out _ HZ2.out.drew).mono ?_)
                            rintro e w5 ⟨rfl, rfl⟩
                            refine hK5.out _ _ hS (fun _ => ?_)
                            clear hK5 K5
                            refine wpAnyH_take (i := 8) (v := .bool false) rfl (by kernel_rfl) (by kernel_rfl) (by kernel_rfl) (fun _ _ _ h => h) (Or.inl ⟨by rfl, ?_⟩) hS ?_
                            · rintro w6 ⟨s1, s2, s3⟩
                              go_simp
                            simp only [Act.put, List.setIfInBounds_toArray, List.set_cons_zero, List.set_cons_succ, List.getElem_toArray, List.getElem_cons_zero, List.getElem_cons_succ]
                            refine wpAnyH_take (i := 9) (v := .bool false) rfl (by kernel_rfl) (by kernel_rfl) (by kernel_rfl) (fun _ _ _ h => h) (Or.inl ⟨by rfl, ?_⟩) hS ?_
                            · rintro w6 ⟨s1, s2, s3⟩
                              go_simp
                            simp only [Act.put, List.setIfInBounds_toArray, List.set_cons_zero, List.set_cons_succ, List.getElem_toArray, List.getElem_cons_zero, List.getElem_cons_succ]
                            refine wpAnyH_take (i := 10) (v := .pointer (some ⟨D, 0, none⟩)) rfl (by kernel_rfl) (by kernel_rfl) (by kernel_rfl) (fun _ _ _ h => h) (Or.inl ⟨by rfl, ?_⟩) hS ?_
                            · rintro w6 ⟨s1, s2, s3⟩
                              go_simp
                            simp only [Act.put, List.setIfInBounds_toArray, List.set_cons_zero, List.set_cons_succ, List.getElem_toArray, List.getElem_cons_zero, List.getElem_cons_succ]
                            refine wpAnyH_take (i := 11) (v := .int .i64 (p : Int)) rfl (by kernel_rfl) (by kernel_rfl) (by kernel_rfl) (fun _ _ _ h => h) (Or.inl ⟨by rfl, ?_⟩) hS ?_
                            · rintro w6 ⟨s1, s2, s3⟩
                              go_simp
                            simp only [Act.put, List.setIfInBounds_toArray, List.set_cons_zero, List.set_cons_succ, List.getElem_toArray, List.getElem_cons_zero, List.getElem_cons_succ]
                            refine wpAnyH_take (i := 13) (v := .slice (some ⟨gb, gO, none⟩) m c') rfl (by kernel_rfl) (by kernel_rfl) (by kernel_rfl) (fun _ _ _ h => h) (Or.inl ⟨by rfl, ?_⟩) hS ?_
                            · rintro w6 ⟨s1, s2, s3⟩
                              go_simp
                            simp only [Act.put, List.setIfInBounds_toArray, List.set_cons_zero, List.set_cons_succ, List.getElem_toArray, List.getElem_cons_zero, List.getElem_cons_succ]
                            refine wpAnyH_take (i := 14) (v := .int .i64 (p : Int)) rfl (by kernel_rfl) (by kernel_rfl) (by kernel_rfl) (fun _ _ _ h => h) (Or.inl ⟨by rfl, ?_⟩) hS ?_
                            · rintro w6 ⟨s1, s2, s3⟩
                              go_simp
                            simp only [Act.put, List.setIfInBounds_toArray, List.set_cons_zero, List.set_cons_succ, List.getElem_toArray, List.getElem_cons_zero, List.getElem_cons_succ]
                            refine wpAnyH_take (i := 15) (v := .pointer (some ⟨gb, gO + p * 4, none⟩)) rfl (by kernel_rfl) (by kernel_rfl) (by kernel_rfl) (fun _ _ _ h => h) (Or.inl ⟨by rfl, ?_⟩) hS ?_
                            · rintro w6 ⟨s1, s2, s3⟩
                              go_simp
                            simp only [Act.put, List.setIfInBounds_toArray, List.set_cons_zero, List.set_cons_succ, List.getElem_toArray, List.getElem_cons_zero, List.getElem_cons_succ]
                            refine wpAnyH_take (i := 16) (v := .pointer (some ⟨gb, gO + p * 4 + 1, none⟩)) rfl (by kernel_rfl) (by kernel_rfl) (by kernel_rfl) (fun _ _ _ h => h) (Or.inl ⟨by rfl, ?_⟩) hS ?_
                            · rintro w6 ⟨s1, s2, s3⟩
                              go_simp
                            simp only [Act.put, List.setIfInBounds_toArray, List.set_cons_zero, List.set_cons_succ, List.getElem_toArray, List.getElem_cons_zero, List.getElem_cons_succ]
                            refine wpAnyH_take (i := 17) (v := .slice lA ln lc) rfl (by kernel_rfl) (by kernel_rfl) (by kernel_rfl) (fun _ _ _ h => h) (Or.inl ⟨by rfl, ?_⟩) hS ?_
                            · rintro w6 ⟨s1, s2, s3⟩
                              go_simp
                            simp only [Act.put, List.setIfInBounds_toArray, List.set_cons_zero, List.set_cons_succ, List.getElem_toArray, List.getElem_cons_zero, List.getElem_cons_succ]
                            refine wpAnyH_ready (rs := [12]) (by kernel_rfl) (by simp) ?_
                            refine AllReadyH.cons rfl (fun K5 hK5 => ?_) AllReadyH.nil
                            go_simp
                            go_at_call 25
                            (with_reducible refine (HLO.out _ HZ2.out.drew).mono ?_)
                            rintro e w5 ⟨vl, rfl, h1, h2⟩
                            have RA := Lib.hid (reads_ownv h1)
                            obtain ⟨A5, c5, rfl⟩ := own_slw h1
                            have Z5 := Lib.hid (HZ2.out.drew.below h2)
                            have B5 := Lib.hid (below_step (Below.refl _ wr).drew h2)
                            have G5 := Lib.hid (HG2.out.below B5.out)
                            have hS1 : (fun w' : World => w'.cell? ⟨gb, gO + p * 4 + 3, none⟩ = some (.bool dn) ∧ w'.cell? ⟨gb, gO + p * 4 + 1, none⟩ = some (.slice lA ln lc) ∧ w'.cell? ⟨sb, so + p, none⟩ = some (.int .i64 sz)) w5 := ⟨cellB d3 B5.out, cellB d1 B5.out, cellB ds B5.out⟩
                            clear h1 h2
                            refine hK5.out _ _ hS1 (fun _ => ?_)
                            clear hK5 K5
                            refine wpAnyH_ready (rs := [18]) (by kernel_rfl) (by simp) ?_
                            refine AllReadyH.cons rfl (fun K5 hK5 => ?_) AllReadyH.nil
                            go_simp
                            go_at_call 26
                            (with_reducible refine (HPG.out _ B5.out).mono ?_)
                            rintro e w6 ⟨vl, rfl, h1, h2⟩
                            have RB := Lib.hid (reads_ownv h1)
                            obtain ⟨A6, c6, rfl⟩ := own_slw h1
                            have RA2 := Lib.hid ((RA.out _ _ rfl).keep_ h2)
                            have Z6 := Lib.hid (Z5.out.below h2)
                            have B6 := Lib.hid (below_step B5.out h2)
                            have hS2 : (fun w' : World => w'.cell? ⟨gb, gO + p * 4 + 3, none⟩ = some (.bool dn) ∧ w'.cell? ⟨gb, gO + p * 4 + 1, none⟩ = some (.slice lA ln lc) ∧ w'.cell? ⟨sb, so + p, none⟩ = some (.int .i64 sz)) w6 := ⟨cellB d3 B6.out, cellB d1 B6.out, cellB ds B6.out⟩
                            clear h1 h2
                            refine hK5.out _ _ hS2 (fun _ => ?_)
                            clear hK5 K5
                            refine wpAnyH_ready (rs := [19]) (by kernel_rfl) (by simp) ?_
                            refine AllReadyH.cons rfl (fun K5 hK5 => ?_) AllReadyH.nil
                            go_simp
                            go_at_call 24
                            (with_reducible refine (r3Ints_z lz _ _ _ _ _ w6 rfl RA2.out (RB.out _ _ rfl) HLL.out).mono ?_)
                            rintro e w7 ⟨rfl, h1⟩
                            have Z7 := Lib.hid (Z6.out.below h1)
                            have B7 := Lib.hid (below_step B6.out h1)
                            have G7 := Lib.hid (HG2.out.below B7.out)
                            have hS3 : (fun w' : World => w'.cell? ⟨gb, gO + p * 4 + 3, none⟩ = some (.bool dn) ∧ w'.cell? ⟨gb, gO + p * 4 + 1, none⟩ = some (.slice lA ln lc) ∧ w'.cell? ⟨sb, so + p, none⟩ = some (.int .i64 sz)) w7 := ⟨cellB d3 B7.out, cellB d1 B7.out, cellB ds B7.out⟩
                            clear h1
                            refine hK5.out _ _ hS3 (fun _ => ?_)
                            clear hK5 K5
                            refine wpAnyH_take (i := 20) (v := .bool false) rfl (by kernel_rfl) (by kernel_rfl) (by kernel_rfl) (fun _ _ _ h => h) (Or.inl ⟨by rfl, ?_⟩) hS3 ?_
                            · rintro w6 ⟨s1, s2, s3⟩
                              go_simp
                            simp only [Act.put, List.setIfInBounds_toArray, List.set_cons_zero, List.set_cons_succ, List.getElem_toArray, List.getElem_cons_zero, List.getElem_cons_succ]
                            refine wpAnyH_take (i := 21) (v := .bool false) rfl (by kernel_rfl) (by kernel_rfl) (by kernel_rfl) (fun _ _ _ h => h) (Or.inl ⟨by rfl, ?_⟩) hS3 ?_
                            · rintro w6 ⟨s1, s2, s3⟩
                              go_simp
                            simp only [Act.put, List.setIfInBounds_toArray, List.set_cons_zero, List.set_cons_succ, List.getElem_toArray, List.getElem_cons_zero, List.getElem_cons_succ]
                            refine wpAnyH_take (i := 22) (v := .bool false) rfl (by kernel_rfl) (by kernel_rfl) (by kernel_rfl) (fun _ _ _ h => h) (Or.inl ⟨by rfl, ?_⟩) hS3 ?_
                            · rintro w6 ⟨s1, s2, s3⟩
                              go_simp
                            simp only [Act.put, List.setIfInBounds_toArray, List.set_cons_zero, List.set_cons_succ, List.getElem_toArray, List.getElem_cons_zero, List.getElem_cons_succ]
                            refine wpAnyH_take (i := 23) (v := .pointer (some ⟨D, 0, none⟩)) rfl (by kernel_rfl) (by kernel_rfl) (by kernel_rfl) (fun _ _ _ h => h) (Or.inl ⟨by rfl, ?_⟩) hS3 ?_
                            · rintro w6 ⟨s1, s2, s3⟩
                              go_simp
                            simp only [Act.put, List.setIfInBounds_toArray, List.set_cons_zero, List.set_cons_succ, List.getElem_toArray, List.getElem_cons_zero, List.getElem_cons_succ]
                            refine wpAnyH_take (i := 24) (v := .int .i64 (p : Int)) rfl (by kernel_rfl) (by kernel_rfl) (by kernel_rfl) (fun _ _ _ h => h) (Or.inl ⟨by rfl, ?_⟩) hS3 ?_
                            · rintro w6 ⟨s1, s2, s3⟩
                              go_simp
                            simp only [Act.put, List.setIfInBounds_toArray, List.set_cons_zero, List.set_cons_succ, List.getElem_toArray, List.getElem_cons_zero, List.getElem_cons_succ]
                            refine wpAnyH_take (i := 26) (v := .slice (some ⟨sb, so, none⟩) m c0) rfl (by kernel_rfl) (by kernel_rfl) (by kernel_rfl) (fun _ _ _ h => h) (Or.inl ⟨by rfl, ?_⟩) hS3 ?_
                            · rintro w6 ⟨s1, s2, s3⟩
                              go_simp
                            simp only [Act.put, List.setIfInBounds_toArray, List.set_cons_zero, List.set_cons_succ, List.getElem_toArray, List.getElem_cons_zero, List.getElem_cons_succ]
                            refine wpAnyH_take (i := 27) (v := .int .i64 (p : Int)) rfl (by kernel_rfl) (by kernel_rfl) (by kernel_rfl) (fun _ _ _ h => h) (Or.inl ⟨by rfl, ?_⟩) hS3 ?_
                            · rintro w6 ⟨s1, s2, s3⟩
                              go_simp
                            simp only [Act.put, List.setIfInBounds_toArray, List.set_cons_zero, List.set_cons_succ, List.getElem_toArray, List.getElem_cons_zero, List.getElem_cons_succ]
                            refine wpAnyH_take (i := 28) (v := .pointer (some ⟨sb, so + p, none⟩)) rfl (by kernel_rfl) (by kernel_rfl) (by kernel_rfl) (fun _ _ _ h => h) (Or.inl ⟨by rfl, ?_⟩) hS3 ?_
                            · rintro w6 ⟨s1, s2, s3⟩
                              go_simp
                            simp only [Act.put, List.setIfInBounds_toArray, List.set_cons_zero, List.set_cons_succ, List.getElem_toArray, List.getElem_cons_zero, List.getElem_cons_succ]
                            refine wpAnyH_take (i := 29) (v := .int .i64 sz) rfl (by kernel_rfl) (by kernel_rfl) (by kernel_rfl) (fun _ _ _ h => h) (Or.inl ⟨by rfl, ?_⟩) hS3 ?_
                            · rintro w6 ⟨s1, s2, s3⟩
                              go_simp
                            simp only [Act.put, List.setIfInBounds_toArray, List.set_cons_zero, List.set_cons_succ, List.getElem_toArray, List.getElem_cons_zero, List.getElem_cons_succ]
                            refine wpAnyH_ready (rs := [25]) (by kernel_rfl) (by simp) ?_
                            refine AllReadyH.cons rfl (fun K5 hK5 => ?_) AllReadyH.nil
                            go_simp
                            go_at_call 27
                            (with_reducible refine (HLE.out _ Z7.out).mono ?_)
                            rintro e w8 ⟨rfl, rfl⟩
                            refine hK5.out _ _ hS3 (fun _ => ?_)
                            clear hK5 K5
                            refine wpAnyH_take (i := 30) (v := .bool false) rfl (by kernel_rfl) (by kernel_rfl) (by kernel_rfl) (fun _ _ _ h => h) (Or.inl ⟨by rfl, ?_⟩) hS3 ?_
                            · rintro w6 ⟨s1, s2, s3⟩
                              go_simp
                            simp only [Act.put, List.setIfInBounds_toArray, List.set_cons_zero, List.set_cons_succ, List.getElem_toArray, List.getElem_cons_zero, List.getElem_cons_succ]
                            refine wpAnyH_take (i := 31) (v := .bool false) rfl (by kernel_rfl) (by kernel_rfl) (by kernel_rfl) (fun _ _ _ h => h) (Or.inl ⟨by rfl, ?_⟩) hS3 ?_
                            · rintro w6 ⟨s1, s2, s3⟩
                              go_simp
                            simp only [Act.put, List.setIfInBounds_toArray, List.set_cons_zero, List.set_cons_succ, List.getElem_toArray, List.getElem_cons_zero, List.getElem_cons_succ]
                            refine wpAnyH_done (by kernel_rfl) ?_ _
                            refine hK _ _ ?_
                            go_wp2
                            go_roundw
                            case rel => exact ⟨p + 1, by omega, by go_num, Z7.out, G7.out⟩
                            case measure => simp [intOf]; omega
                          · obtain rfl : p = m := by omega
                            go_wp2
                            go_roundw
                            case rel => exact ⟨k + 1, gs, T, A', c', by omega, by go_num, rfl, HZ2.out, HG2.out, HSZ.out⟩
                            case measure => simp [intOf]; omega
          · obtain rfl : k = n := by omega
            have HB := Lib.hid HZ.out.bel
            go_wp2_with (first
              | (go_at_call 21; (with_reducible refine (Read_nil 0 0 _).mono ?_); intro e w7 hr; obtain ⟨h1, rfl⟩ := rd_no (by decide) hr; have B7 := Lib.hid (below_step HB.out h1); clear hr h1)
              | (go_at_call 17; (with_reducible refine (Stop_nil 0 0 _).mono ?_); rintro e w8 ⟨rfl, rfl⟩)
              | (go_at_call 19; (with_reducible refine (Crash_nil _ _).mono ?_); rintro e w8 ⟨rfl, rfl⟩)
              | (go_at_call 27; (with_reducible refine (len_nil 0 _).mono ?_); rintro e w8 ⟨rfl, rfl⟩)
              | (go_at_call 12; (with_reducible refine (Write_nil 0 0 _ _).mono ?_); rintro e w8 ⟨rfl, rfl⟩)
              | (go_at_call 15; (with_reducible refine (Sync_nil 0 _).mono ?_); rintro e w8 ⟨rfl, rfl⟩)
              | (go_at_call 25; (with_reducible refine (Loose_nil 0 _).mono ?_); rintro e w8 ⟨rfl, rfl⟩)
              | (go_at_call 23; (with_reducible refine (down_nil 0 _).mono ?_); rintro e w8 ⟨rfl, rfl⟩))
            go_ret
            exact ⟨rfl, B7.out⟩

end Go.Proofs.Ythbchloghbfnmaa
