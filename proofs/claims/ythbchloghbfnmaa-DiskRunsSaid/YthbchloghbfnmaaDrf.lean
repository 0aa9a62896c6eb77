/- The walk of the law DiskRefuses. -/
import Derived.Test.YthbchloghbfnmaaDls
namespace Go.Proofs.Ythbchloghbfnmaa
open Go.RowKit
set_option linter.unusedVariables false

def mayB (s : St) : Bool := decide (s.region = 0) && (decide (0 ≤ s.page) && decide (s.page < 4)) && !s.short
/-- The one region, behind n writes that may be. -/
structure Rf (r : Rg) (n a : Nat) : Prop where
  size : r.size = 4
  down : r.down = decide (a < n)
  left : n ≤ a → r.left = (a : Int) - n
  loose : r.loose.length = min n a
theorem rf_start (a : Nat) : stA ([4].map fun x : Int => fresh6 x.toNat) 0 (a : Int) = [stR (fresh6 4) a] ∧ Rf (stR (fresh6 4) a) 0 a := by
  refine ⟨rfl, rfl, by simp [stR, fresh6], fun _ => ?_, by simp [stR, fresh6]⟩
  show max (a : Int) (-1) = _
  omega
theorem regN_one (r : Rg) (x : Int) : regN [r] x = if x = 0 then some r else none := by
  unfold regN
  by_cases h : x < 0
  · rw [if_pos h, if_neg (by omega)]
  · rw [if_neg h]
    by_cases h0 : x = 0
    · subst h0; rfl
    · rw [if_neg h0]
      exact List.getElem?_eq_none_iff.2 (by simp; omega)
theorem rf_may {r : Rg} {n a : Nat} (h : Rf r n a) {s : St} (hm : mayB s = true) :
    ∃ r', (wrA [r] s.region s.page (pgB s)).1 = [r'] ∧ Rf r' (n + 1) a ∧ ((wrA [r] s.region s.page (pgB s)).2 = 0 ↔ n < a) := by
  simp [mayB] at hm
  obtain ⟨⟨h0, h1, h2⟩, h3⟩ := hm
  have hp : hasB r s.page = true := by simp [hasB, h.size, h1, h2]
  have hl : (pgB s).length = 128 := by simp [pgB_len, pgLen, h3]
  unfold wrA
  rw [regN_one, if_pos h0]
  simp only [hp, hl, if_true]
  by_cases hd : a < n
  · have hdn : r.down = true := by rw [h.down]; simpa using hd
    rw [hdn, if_pos rfl]
    exact ⟨r, rfl, ⟨h.size, by rw [hdn]; symm; simp; omega, fun hq => absurd hq (by omega), by rw [h.loose]; omega⟩, by simp; omega⟩
  · have hdn : r.down = false := by rw [h.down]; simpa using hd
    have hle := h.left (by omega)
    have hlo := h.loose
    rw [hdn]
    by_cases he : n = a
    · subst he
      have hc : cntR r = { r with down := true } := by unfold cntR; rw [if_pos (by omega)]
      rw [hc, h0]
      exact ⟨{ r with down := true }, rfl, ⟨h.size, by simp, fun hq => absurd hq (by omega), by show r.loose.length = _; rw [hlo]; omega⟩, by simp⟩
    · have hc : cntR r = { r with left := r.left - 1 } := by unfold cntR; rw [if_neg (by omega), if_pos (by omega)]
      rw [hc, h0]
      simp only [hdn]
      exact ⟨wrR { r with left := r.left - 1, down := false } s.page (pgB s), rfl, ⟨h.size, by show false = _; symm; simp; omega, fun hq => by show r.left - 1 = _; rw [hle]; omega, by show (r.loose ++ [_]).length = _; simp; rw [hlo]; omega⟩, by simp; omega⟩
theorem rf_not {r : Rg} {n a : Nat} (h : Rf r n a) {s : St} (hm : mayB s = false) : (wrA [r] s.region s.page (pgB s)).1 = [r] ∧ (wrA [r] s.region s.page (pgB s)).2 ≠ 0 := by
  unfold wrA
  rw [regN_one]
  split
  · simp
  · rename_i q hq
    split at hq
    · rename_i h0
      injection hq with hq
      subst hq
      split
      · simp
      · split
        · rename_i hh
          split
          · rename_i hl
            exfalso
            have hl2 : s.short = false := by
              rw [pgB_len, pgLen] at hl
              split at hl
              · omega
              · rename_i hs; simpa using hs
            simp [hasB, h.size] at hh
            simp [mayB, h0, hl2, hh] at hm
          · simp
        · simp
    · cases hq
theorem rf_end {r : Rg} {n a : Nat} (h : Rf r n a) : rdE [r] 0 0 = (if n ≤ a then 0 else 3) ∧ (looL [r] 0).length = min n a := by
  refine ⟨?_, ?_⟩
  · unfold rdE
    rw [regN_one, if_pos rfl]
    by_cases hd : a < n
    · rw [if_neg (by omega)]
      simp [hd, h.down]
    · rw [if_pos (by omega)]
      simp [hd, h.down, hasB, h.size]
  · unfold looL
    rw [regN_one, if_pos rfl]
    simpa using h.loose

/-- A step in a box. -/
structure Sbox (w : World) (g : Nat) (x : Sx) : Prop where
  c0 : w.cell? ⟨g, 0, none⟩ = some (.int .i64 x.s.kind)
  c1 : w.cell? ⟨g, 1, none⟩ = some (.int .i64 x.s.region)
  c2 : w.cell? ⟨g, 2, none⟩ = some (.int .i64 x.s.page)
  c3 : w.cell? ⟨g, 3, none⟩ = some (.int .u8 (x.s.fill.toNat : Int))
  c4 : w.cell? ⟨g, 4, none⟩ = some (.bool x.s.short)
  c5 : w.cell? ⟨g, 5, none⟩ = some (.slice x.ka x.kn x.kc)
def Sx.cells (x : Sx) : Array Value := #[.int .i64 x.s.kind, .int .i64 x.s.region, .int .i64 x.s.page, .int .u8 (x.s.fill.toNat : Int), .bool x.s.short, .slice x.ka x.kn x.kc]
theorem Sbox.of {w : World} {g : Nat} {x : Sx} {t : TypeId} (h : Has w g t x.cells) : Sbox w g x :=
  ⟨h.cell 0, h.cell 1, h.cell 2, h.cell 3, h.cell 4, h.cell 5⟩
theorem rd_bad {l : List UInt8} {w w' : World} {e : Ending} (h : RdEnd l 3 w e w') : Below w.heap.size w w' ∧ e = .returned (.tuple #[.slice none 0 0, .int .i64 3]) := by
  obtain ⟨hb, ⟨_, _, h⟩ | ⟨h, _⟩⟩ := h
  · exact ⟨hb, h⟩
  · exact absurd h (by decide)
theorem wrap_u8 (u : UInt8) : IntKind.u8.wrap ((u.toNat : Int) + 1) = ((u + 1).toNat : Int) := by
  have := u.toNat_lt
  rw [UInt8.toNat_add]
  simp [IntKind.wrap, IntKind.bits, IntKind.signed]
theorem Dz.drew {w0 w : World} {T : Tg} {d D A N : Nat} {rs : List Rg} (h : Dz w0 w T d D A N rs) : Dz w0 w.drew T d D A N rs := h.below ⟨rfl, rfl, rfl, Nat.le_refl _, fun _ _ => rfl⟩
set_option maxRecDepth 100000 in
set_option maxHeartbeats 4000000 in
theorem walkRefuses (A : Option Addr) (n c a : Nat) (l : List Sx) (w : World) (hl : StepsA w A n l) (hn : n ≤ 9223372036854775807) (ha : a ≤ 255) :
    Calls Try.prog 7 #[.slice A n c, .int .u8 (a : Int)] w fun e w' => e = .returned (.bool true) ∧ Below w.heap.size w w' := by
  have HS := Lib.hid hl
  clear hl
  cases hsm : smB l with
  | false =>
    have hsm2 := Lib.hid hsm
    clear hsm
    go_enter Try.func7, Try.ntmps7
    go_wp2_with (first
      | (go_at_call 8; (with_reducible refine (awake06_any _).mono ?_); rintro e w1 ⟨rfl, h0⟩; have B1 := Lib.hid h0; clear h0)
      | (go_at_call 9; have hq := small_any _ n c l w1 (HS.out.below B1.out) hn; rw [hsm2.out] at hq; (with_reducible refine hq.mono ?_); clear hq; rintro e w2 ⟨rfl, rfl⟩))
    go_ret
    exact ⟨rfl, B1.out⟩
  | true =>
    have HM := Lib.hid hsm
    have hm : n ≤ 40 := by rw [HS.out.len]; exact smB_len hsm
    clear hsm hn
    go_enter Try.func7, Try.ntmps7
    go_wp2_with (first
      | (go_at_call 8; (with_reducible refine (awake06_any _).mono ?_); rintro e w1 ⟨rfl, h0⟩; have B1 := Lib.hid h0; clear h0)
      | (go_at_call 9; have hq := small_any _ n c l w1 (HS.out.below B1.out) (by omega); rw [HM.out] at hq; (with_reducible refine hq.mono ?_); clear hq; rintro e w2 ⟨rfl, rfl⟩)
      | (go_at_call 10; have hI : Ints6 (w1.alloc (.cells #[.int .i64 4] 3)) (some ⟨w1.heap.size, 0, none⟩) 1 [4] := ints_lit w1 [4] _ rfl; have hq := New_z (w0 := w) (c := 1) 0 hI (lo_none _ _) (below_alloc' B1.out _) (by decide); (with_reducible refine hq.mono ?_); clear hq; rintro e w3 ⟨D, DA, T3, rfl, h1, _, _⟩; have Z3 := Lib.hid h1; clear h1)
      | (go_at_call 17; have hq := Stop_z 0 (a : Int) Z3.out (by omega); rw [(rf_start a).1] at hq; (with_reducible refine hq.mono ?_); clear hq; rintro e w4 ⟨rfl, T4, h1, _⟩; have Z4 := Lib.hid h1; clear h1))
    go_loopw [9, 10] (fun q i wr => ∃ (k m : Nat) (r : Rg) (T : Tg), k ≤ n ∧ m ≤ k ∧ i = .int .i64 (k : Int) ∧ q = .int .i64 (m : Int) ∧ Dz w wr T 0 D DA k [r] ∧ Rf r m a) (fun _ i _ => n - (intOf i).toNat)
    case atStart => exact ⟨0, 0, _, T4, Nat.zero_le _, Nat.le_refl _, rfl, rfl, Z4.out, (rf_start a).2⟩
    case round =>
      obtain ⟨k, m, r, T, hk, hmk, rfl, rfl, hz, hrf⟩ := hrel
      have HZ := Lib.hid hz
      have HR := Lib.hid hrf
      clear hz hrf
      by_cases hlt : k < n
      · obtain ⟨x, b, off, hx, rfl, hbl, c0, c1, c2, c3, c4, c5⟩ := HS.out.at_ HZ.out.bel hlt
        have HX := Lib.hid hx
        clear hx
        have i1 : (k : Int) < n := by omega
        by_cases hk0 : x.s.kind = 0
        · have e0 : (x.s.kind != 0) = false := by simpa using hk0
          clear hk0
          have hmx : Try.prog.follows .mixedOrders = true := by kernel_rfl
          have hb0 : Below wr.heap.size wr (wr.alloc (.cells x.cells 35)) := (Below.refl _ wr).alloc (Nat.le_refl _) _
          have Z1 : Hid (Dz w (wr.alloc (.cells #[.int .i64 x.s.kind, .int .i64 x.s.region, .int .i64 x.s.page, .int .u8 (x.s.fill.toNat : Int), .bool x.s.short, .slice x.ka x.kn x.kc] 35)).drew T 0 D DA k [r]) := Lib.hid ((HZ.out.below hb0).drew)
          have X1 : Hid (Bk (wr.alloc (.cells #[.int .i64 x.s.kind, .int .i64 x.s.region, .int .i64 x.s.page, .int .u8 (x.s.fill.toNat : Int), .bool x.s.short, .slice x.ka x.kn x.kc] 35)).drew T wr.heap.size 35 x.cells) := Lib.hid ⟨Has.made wr 35 _, HZ.out.lo.un (Nat.le_refl _)⟩
          have HP := Lib.hid (fun w1 => show Calls Try.prog 13 #[.agg #[.int .i64 x.s.kind, .int .i64 x.s.region, .int .i64 x.s.page, .int .u8 (x.s.fill.toNat : Int), .bool x.s.short, .slice x.ka x.kn x.kc]] w1 (PgEnd (pgB x.s) w1) from page_any x.s x.kv rfl w1)
          clear hb0
          obtain ⟨er, her⟩ : ∃ q, (wrA [r] x.s.region x.s.page (pgB x.s)).2 = q := ⟨_, rfl⟩
          have HER := Lib.hid her
          cases hmay : mayB x.s
          · obtain ⟨h1, h2⟩ := rf_not HR.out hmay
            have HW := Lib.hid h1
            rw [her] at h2
            have q1 : (er == 0) = false := by simpa using h2
            clear h1 h2 her
            have hcs : (x.s.region == 0) = false ∨ ((x.s.region == 0) = true ∧ decide (0 ≤ x.s.page) = false) ∨ ((x.s.region == 0) = true ∧ decide (0 ≤ x.s.page) = true ∧ decide (x.s.page < 4) = false) ∨ ((x.s.region == 0) = true ∧ decide (0 ≤ x.s.page) = true ∧ decide (x.s.page < 4) = true ∧ (!x.s.short) = false) := by
              unfold mayB at hmay
              rw [show decide (x.s.region = 0) = (x.s.region == 0) from rfl] at hmay
              revert hmay
              generalize (x.s.region == 0) = b1, decide (0 ≤ x.s.page) = b2, decide (x.s.page < 4) = b3, x.s.short = b4
              revert b1 b2 b3 b4
              decide
            clear hmay
            rcases hcs with e1 | ⟨e1, e2⟩ | ⟨e1, e2, e3⟩ | ⟨e1, e2, e3, e4⟩
            · go_wp2
              have hS : (fun w' : World => Sbox w' wr.heap.size x) _ := Sbox.of X1.out.has
              rename_i K hK
              refine wp_held (fun w' : World => Sbox w' wr.heap.size x) K hmx ?_ (fun _ _ h => h)
              refine wpAnyH_take (i := 0) (v := .pointer (some ⟨D, 0, none⟩)) rfl (by kernel_rfl) (by kernel_rfl) (by kernel_rfl) (fun _ _ _ h => h) (Or.inl ⟨by rfl, ?_⟩) hS ?_
              · rintro w6 ⟨c0, c1, c2, c3, c4, c5⟩
                go_simp
              simp only [Act.put, List.setIfInBounds_toArray, List.set_cons_zero, List.set_cons_succ, List.getElem_toArray, List.getElem_cons_zero]
              refine wpAnyH_take (i := 1) (v := .pointer (some ⟨wr.heap.size, 1, none⟩)) rfl (by kernel_rfl) (by kernel_rfl) (by kernel_rfl) (fun _ _ _ h => h) (Or.inl ⟨by rfl, ?_⟩) hS ?_
              · rintro w6 ⟨c0, c1, c2, c3, c4, c5⟩
                go_simp
              simp only [Act.put, List.setIfInBounds_toArray, List.set_cons_zero, List.set_cons_succ, List.getElem_toArray, List.getElem_cons_zero, List.getElem_cons_succ]
              refine wpAnyH_take (i := 2) (v := .int .i64 x.s.region) rfl (by kernel_rfl) (by kernel_rfl) (by kernel_rfl) (fun _ _ _ h => h) (Or.inl ⟨by rfl, ?_⟩) hS ?_
              · rintro w6 ⟨c0, c1, c2, c3, c4, c5⟩
                go_simp
              simp only [Act.put, List.setIfInBounds_toArray, List.set_cons_zero, List.set_cons_succ, List.getElem_toArray, List.getElem_cons_zero, List.getElem_cons_succ]
              refine wpAnyH_take (i := 3) (v := .pointer (some ⟨wr.heap.size, 2, none⟩)) rfl (by kernel_rfl) (by kernel_rfl) (by kernel_rfl) (fun _ _ _ h => h) (Or.inl ⟨by rfl, ?_⟩) hS ?_
              · rintro w6 ⟨c0, c1, c2, c3, c4, c5⟩
                go_simp
              simp only [Act.put, List.setIfInBounds_toArray, List.set_cons_zero, List.set_cons_succ, List.getElem_toArray, List.getElem_cons_zero, List.getElem_cons_succ]
              refine wpAnyH_take (i := 4) (v := .int .i64 x.s.page) rfl (by kernel_rfl) (by kernel_rfl) (by kernel_rfl) (fun _ _ _ h => h) (Or.inl ⟨by rfl, ?_⟩) hS ?_
              · rintro w6 ⟨c0, c1, c2, c3, c4, c5⟩
                go_simp
              simp only [Act.put, List.setIfInBounds_toArray, List.set_cons_zero, List.set_cons_succ, List.getElem_toArray, List.getElem_cons_zero, List.getElem_cons_succ]
              refine wpAnyH_take (i := 5) (v := .agg #[.int .i64 x.s.kind, .int .i64 x.s.region, .int .i64 x.s.page, .int .u8 (x.s.fill.toNat : Int), .bool x.s.short, .slice x.ka x.kn x.kc]) rfl (by kernel_rfl) (by kernel_rfl) (by kernel_rfl) (fun _ _ _ h => h) (Or.inl ⟨by rfl, ?_⟩) hS ?_
              · rintro w6 ⟨c0, c1, c2, c3, c4, c5⟩
                go_simp
              simp only [Act.put, List.setIfInBounds_toArray, List.set_cons_zero, List.set_cons_succ, List.getElem_toArray, List.getElem_cons_zero, List.getElem_cons_succ]
              refine wpAnyH_ready (rs := [6]) (by kernel_rfl) (by simp) ?_
              refine AllReadyH.cons rfl (fun K5 hK5 => ?_) AllReadyH.nil
              go_simp
              go_at_call 13
              (with_reducible refine (HP.out _).mono ?_)
              rintro e w2 ⟨g2, rfl, h2, h3, h4⟩
              have Z2 := Lib.hid (Z1.out.below h4)
              have K2 : Hid (Bk w2 T g2 5 _) := Lib.hid ⟨h3, Z1.out.lo.un h2⟩
              have X2 := Lib.hid (X1.out.below h4)
              clear h2 h3 h4
              have hS1 : (fun w' : World => Sbox w' wr.heap.size x) w2 := Sbox.of X2.out.has
              refine hK5.out _ _ hS1 (fun _ => ?_)
              clear hK5 K5
              refine wpAnyH_ready (rs := [7]) (by kernel_rfl) (by simp) ?_
              refine AllReadyH.cons rfl (fun K5 hK5 => ?_) AllReadyH.nil
              go_simp
              go_at_call 12
              have hq := Write_z x.s.region x.s.page (pgB x.s) g2 Z2.out (by omega) K2.out
              rw [HER.out, HW.out] at hq
              (with_reducible refine hq.mono ?_)
              clear hq
              rintro e w3 ⟨rfl, T3, h1, h2⟩
              have Z3 := Lib.hid h1
              have X3 := Lib.hid (X2.out.tn h2)
              clear h1 h2
              have hS2 : (fun w' : World => Sbox w' wr.heap.size x) w3 := Sbox.of X3.out.has
              refine hK5.out _ _ hS2 (fun _ => ?_)
              clear hK5 K5
              refine wpAnyH_take (i := 8) (v := .int .i64 er) rfl (by kernel_rfl) (by kernel_rfl) (by kernel_rfl) (fun _ _ _ h => h) (Or.inl ⟨by rfl, ?_⟩) hS2 ?_
              · rintro w6 ⟨c0, c1, c2, c3, c4, c5⟩
                go_simp
              simp only [Act.put, List.setIfInBounds_toArray, List.set_cons_zero, List.set_cons_succ, List.getElem_toArray, List.getElem_cons_zero, List.getElem_cons_succ]
              refine wpAnyH_done (by kernel_rfl) ?_ _
              refine hK _ _ ?_
              go_wp2
              go_roundw
              case rel => exact ⟨k + 1, m, r, T3, by omega, by omega, by go_num, rfl, Z3.out, HR.out⟩
              case measure => simp [intOf]; omega
            · go_wp2
              have hS : (fun w' : World => Sbox w' wr.heap.size x) _ := Sbox.of X1.out.has
              rename_i K hK
              refine wp_held (fun w' : World => Sbox w' wr.heap.size x) K hmx ?_ (fun _ _ h => h)
              refine wpAnyH_take (i := 0) (v := .pointer (some ⟨D, 0, none⟩)) rfl (by kernel_rfl) (by kernel_rfl) (by kernel_rfl) (fun _ _ _ h => h) (Or.inl ⟨by rfl, ?_⟩) hS ?_
              · rintro w6 ⟨c0, c1, c2, c3, c4, c5⟩
                go_simp
              simp only [Act.put, List.setIfInBounds_toArray, List.set_cons_zero, List.set_cons_succ, List.getElem_toArray, List.getElem_cons_zero]
              refine wpAnyH_take (i := 1) (v := .pointer (some ⟨wr.heap.size, 1, none⟩)) rfl (by kernel_rfl) (by kernel_rfl) (by kernel_rfl) (fun _ _ _ h => h) (Or.inl ⟨by rfl, ?_⟩) hS ?_
              · rintro w6 ⟨c0, c1, c2, c3, c4, c5⟩
                go_simp
              simp only [Act.put, List.setIfInBounds_toArray, List.set_cons_zero, List.set_cons_succ, List.getElem_toArray, List.getElem_cons_zero, List.getElem_cons_succ]
              refine wpAnyH_take (i := 2) (v := .int .i64 x.s.region) rfl (by kernel_rfl) (by kernel_rfl) (by kernel_rfl) (fun _ _ _ h => h) (Or.inl ⟨by rfl, ?_⟩) hS ?_
              · rintro w6 ⟨c0, c1, c2, c3, c4, c5⟩
                go_simp
              simp only [Act.put, List.setIfInBounds_toArray, List.set_cons_zero, List.set_cons_succ, List.getElem_toArray, List.getElem_cons_zero, List.getElem_cons_succ]
              refine wpAnyH_take (i := 3) (v := .pointer (some ⟨wr.heap.size, 2, none⟩)) rfl (by kernel_rfl) (by kernel_rfl) (by kernel_rfl) (fun _ _ _ h => h) (Or.inl ⟨by rfl, ?_⟩) hS ?_
              · rintro w6 ⟨c0, c1, c2, c3, c4, c5⟩
                go_simp
              simp only [Act.put, List.setIfInBounds_toArray, List.set_cons_zero, List.set_cons_succ, List.getElem_toArray, List.getElem_cons_zero, List.getElem_cons_succ]
              refine wpAnyH_take (i := 4) (v := .int .i64 x.s.page) rfl (by kernel_rfl) (by kernel_rfl) (by kernel_rfl) (fun _ _ _ h => h) (Or.inl ⟨by rfl, ?_⟩) hS ?_
              · rintro w6 ⟨c0, c1, c2, c3, c4, c5⟩
                go_simp
              simp only [Act.put, List.setIfInBounds_toArray, List.set_cons_zero, List.set_cons_succ, List.getElem_toArray, List.getElem_cons_zero, List.getElem_cons_succ]
              refine wpAnyH_take (i := 5) (v := .agg #[.int .i64 x.s.kind, .int .i64 x.s.region, .int .i64 x.s.page, .int .u8 (x.s.fill.toNat : Int), .bool x.s.short, .slice x.ka x.kn x.kc]) rfl (by kernel_rfl) (by kernel_rfl) (by kernel_rfl) (fun _ _ _ h => h) (Or.inl ⟨by rfl, ?_⟩) hS ?_
              · rintro w6 ⟨c0, c1, c2, c3, c4, c5⟩
                go_simp
              simp only [Act.put, List.setIfInBounds_toArray, List.set_cons_zero, List.set_cons_succ, List.getElem_toArray, List.getElem_cons_zero, List.getElem_cons_succ]
              refine wpAnyH_ready (rs := [6]) (by kernel_rfl) (by simp) ?_
              refine AllReadyH.cons rfl (fun K5 hK5 => ?_) AllReadyH.nil
              go_simp
              go_at_call 13
              (with_reducible refine (HP.out _).mono ?_)
              rintro e w2 ⟨g2, rfl, h2, h3, h4⟩
              have Z2 := Lib.hid (Z1.out.below h4)
              have K2 : Hid (Bk w2 T g2 5 _) := Lib.hid ⟨h3, Z1.out.lo.un h2⟩
              have X2 := Lib.hid (X1.out.below h4)
              clear h2 h3 h4
              have hS1 : (fun w' : World => Sbox w' wr.heap.size x) w2 := Sbox.of X2.out.has
              refine hK5.out _ _ hS1 (fun _ => ?_)
              clear hK5 K5
              refine wpAnyH_ready (rs := [7]) (by kernel_rfl) (by simp) ?_
              refine AllReadyH.cons rfl (fun K5 hK5 => ?_) AllReadyH.nil
              go_simp
              go_at_call 12
              have hq := Write_z x.s.region x.s.page (pgB x.s) g2 Z2.out (by omega) K2.out
              rw [HER.out, HW.out] at hq
              (with_reducible refine hq.mono ?_)
              clear hq
              rintro e w3 ⟨rfl, T3, h1, h2⟩
              have Z3 := Lib.hid h1
              have X3 := Lib.hid (X2.out.tn h2)
              clear h1 h2
              have hS2 : (fun w' : World => Sbox w' wr.heap.size x) w3 := Sbox.of X3.out.has
              refine hK5.out _ _ hS2 (fun _ => ?_)
              clear hK5 K5
              refine wpAnyH_take (i := 8) (v := .int .i64 er) rfl (by kernel_rfl) (by kernel_rfl) (by kernel_rfl) (fun _ _ _ h => h) (Or.inl ⟨by rfl, ?_⟩) hS2 ?_
              · rintro w6 ⟨c0, c1, c2, c3, c4, c5⟩
                go_simp
              simp only [Act.put, List.setIfInBounds_toArray, List.set_cons_zero, List.set_cons_succ, List.getElem_toArray, List.getElem_cons_zero, List.getElem_cons_succ]
              refine wpAnyH_done (by kernel_rfl) ?_ _
              refine hK _ _ ?_
              go_wp2
              go_roundw
              case rel => exact ⟨k + 1, m, r, T3, by omega, by omega, by go_num, rfl, Z3.out, HR.out⟩
              case measure => simp [intOf]; omega
            · go_wp2
              have hS : (fun w' : World => Sbox w' wr.heap.size x) _ := Sbox.of X1.out.has
              rename_i K hK
              refine wp_held (fun w' : World => Sbox w' wr.heap.size x) K hmx ?_ (fun _ _ h => h)
              refine wpAnyH_take (i := 0) (v := .pointer (some ⟨D, 0, none⟩)) rfl (by kernel_rfl) (by kernel_rfl) (by kernel_rfl) (fun _ _ _ h => h) (Or.inl ⟨by rfl, ?_⟩) hS ?_
              · rintro w6 ⟨c0, c1, c2, c3, c4, c5⟩
                go_simp
              simp only [Act.put, List.setIfInBounds_toArray, List.set_cons_zero, List.set_cons_succ, List.getElem_toArray, List.getElem_cons_zero]
              refine wpAnyH_take (i := 1) (v := .pointer (some ⟨wr.heap.size, 1, none⟩)) rfl (by kernel_rfl) (by kernel_rfl) (by kernel_rfl) (fun _ _ _ h => h) (Or.inl ⟨by rfl, ?_⟩) hS ?_
              · rintro w6 ⟨c0, c1, c2, c3, c4, c5⟩
                go_simp
              simp only [Act.put, List.setIfInBounds_toArray, List.set_cons_zero, List.set_cons_succ, List.getElem_toArray, List.getElem_cons_zero, List.getElem_cons_succ]
              refine wpAnyH_take (i := 2) (v := .int .i64 x.s.region) rfl (by kernel_rfl) (by kernel_rfl) (by kernel_rfl) (fun _ _ _ h => h) (Or.inl ⟨by rfl, ?_⟩) hS ?_
              · rintro w6 ⟨c0, c1, c2, c3, c4, c5⟩
                go_simp
              simp only [Act.put, List.setIfInBounds_toArray, List.set_cons_zero, List.set_cons_succ, List.getElem_toArray, List.getElem_cons_zero, List.getElem_cons_succ]
              refine wpAnyH_take (i := 3) (v := .pointer (some ⟨wr.heap.size, 2, none⟩)) rfl (by kernel_rfl) (by kernel_rfl) (by kernel_rfl) (fun _ _ _ h => h) (Or.inl ⟨by rfl, ?_⟩) hS ?_
              · rintro w6 ⟨c0, c1, c2, c3, c4, c5⟩
                go_simp
              simp only [Act.put, List.setIfInBounds_toArray, List.set_cons_zero, List.set_cons_succ, List.getElem_toArray, List.getElem_cons_zero, List.getElem_cons_succ]
              refine wpAnyH_take (i := 4) (v := .int .i64 x.s.page) rfl (by kernel_rfl) (by kernel_rfl) (by kernel_rfl) (fun _ _ _ h => h) (Or.inl ⟨by rfl, ?_⟩) hS ?_
              · rintro w6 ⟨c0, c1, c2, c3, c4, c5⟩
                go_simp
              simp only [Act.put, List.setIfInBounds_toArray, List.set_cons_zero, List.set_cons_succ, List.getElem_toArray, List.getElem_cons_zero, List.getElem_cons_succ]
              refine wpAnyH_take (i := 5) (v := .agg #[.int .i64 x.s.kind, .int .i64 x.s.region, .int .i64 x.s.page, .int .u8 (x.s.fill.toNat : Int), .bool x.s.short, .slice x.ka x.kn x.kc]) rfl (by kernel_rfl) (by kernel_rfl) (by kernel_rfl) (fun _ _ _ h => h) (Or.inl ⟨by rfl, ?_⟩) hS ?_
              · rintro w6 ⟨c0, c1, c2, c3, c4, c5⟩
                go_simp
              simp only [Act.put, List.setIfInBounds_toArray, List.set_cons_zero, List.set_cons_succ, List.getElem_toArray, List.getElem_cons_zero, List.getElem_cons_succ]
              refine wpAnyH_ready (rs := [6]) (by kernel_rfl) (by simp) ?_
              refine AllReadyH.cons rfl (fun K5 hK5 => ?_) AllReadyH.nil
              go_simp
              go_at_call 13
              (with_reducible refine (HP.out _).mono ?_)
              rintro e w2 ⟨g2, rfl, h2, h3, h4⟩
              have Z2 := Lib.hid (Z1.out.below h4)
              have K2 : Hid (Bk w2 T g2 5 _) := Lib.hid ⟨h3, Z1.out.lo.un h2⟩
              have X2 := Lib.hid (X1.out.below h4)
              clear h2 h3 h4
              have hS1 : (fun w' : World => Sbox w' wr.heap.size x) w2 := Sbox.of X2.out.has
              refine hK5.out _ _ hS1 (fun _ => ?_)
              clear hK5 K5
              refine wpAnyH_ready (rs := [7]) (by kernel_rfl) (by simp) ?_
              refine AllReadyH.cons rfl (fun K5 hK5 => ?_) AllReadyH.nil
              go_simp
              go_at_call 12
              have hq := Write_z x.s.region x.s.page (pgB x.s) g2 Z2.out (by omega) K2.out
              rw [HER.out, HW.out] at hq
              (with_reducible refine hq.mono ?_)
              clear hq
              rintro e w3 ⟨rfl, T3, h1, h2⟩
              have Z3 := Lib.hid h1
              have X3 := Lib.hid (X2.out.tn h2)
              clear h1 h2
              have hS2 : (fun w' : World => Sbox w' wr.heap.size x) w3 := Sbox.of X3.out.has
              refine hK5.out _ _ hS2 (fun _ => ?_)
              clear hK5 K5
              refine wpAnyH_take (i := 8) (v := .int .i64 er) rfl (by kernel_rfl) (by kernel_rfl) (by kernel_rfl) (fun _ _ _ h => h) (Or.inl ⟨by rfl, ?_⟩) hS2 ?_
              · rintro w6 ⟨c0, c1, c2, c3, c4, c5⟩
                go_simp
              simp only [Act.put, List.setIfInBounds_toArray, List.set_cons_zero, List.set_cons_succ, List.getElem_toArray, List.getElem_cons_zero, List.getElem_cons_succ]
              refine wpAnyH_done (by kernel_rfl) ?_ _
              refine hK _ _ ?_
              go_wp2
              go_roundw
              case rel => exact ⟨k + 1, m, r, T3, by omega, by omega, by go_num, rfl, Z3.out, HR.out⟩
              case measure => simp [intOf]; omega
            · go_wp2
              have hS : (fun w' : World => Sbox w' wr.heap.size x) _ := Sbox.of X1.out.has
              rename_i K hK
              refine wp_held (fun w' : World => Sbox w' wr.heap.size x) K hmx ?_ (fun _ _ h => h)
              refine wpAnyH_take (i := 0) (v := .pointer (some ⟨D, 0, none⟩)) rfl (by kernel_rfl) (by kernel_rfl) (by kernel_rfl) (fun _ _ _ h => h) (Or.inl ⟨by rfl, ?_⟩) hS ?_
              · rintro w6 ⟨c0, c1, c2, c3, c4, c5⟩
                go_simp
              simp only [Act.put, List.setIfInBounds_toArray, List.set_cons_zero, List.set_cons_succ, List.getElem_toArray, List.getElem_cons_zero]
              refine wpAnyH_take (i := 1) (v := .pointer (some ⟨wr.heap.size, 1, none⟩)) rfl (by kernel_rfl) (by kernel_rfl) (by kernel_rfl) (fun _ _ _ h => h) (Or.inl ⟨by rfl, ?_⟩) hS ?_
              · rintro w6 ⟨c0, c1, c2, c3, c4, c5⟩
                go_simp
              simp only [Act.put, List.setIfInBounds_toArray, List.set_cons_zero, List.set_cons_succ, List.getElem_toArray, List.getElem_cons_zero, List.getElem_cons_succ]
              refine wpAnyH_take (i := 2) (v := .int .i64 x.s.region) rfl (by kernel_rfl) (by kernel_rfl) (by kernel_rfl) (fun _ _ _ h => h) (Or.inl ⟨by rfl, ?_⟩) hS ?_
              · rintro w6 ⟨c0, c1, c2, c3, c4, c5⟩
                go_simp
              simp only [Act.put, List.setIfInBounds_toArray, List.set_cons_zero, List.set_cons_succ, List.getElem_toArray, List.getElem_cons_zero, List.getElem_cons_succ]
              refine wpAnyH_take (i := 3) (v := .pointer (some ⟨wr.heap.size, 2, none⟩)) rfl (by kernel_rfl) (by kernel_rfl) (by kernel_rfl) (fun _ _ _ h => h) (Or.inl ⟨by rfl, ?_⟩) hS ?_
              · rintro w6 ⟨c0, c1, c2, c3, c4, c5⟩
                go_simp
              simp only [Act.put, List.setIfInBounds_toArray, List.set_cons_zero, List.set_cons_succ, List.getElem_toArray, List.getElem_cons_zero, List.getElem_cons_succ]
              refine wpAnyH_take (i := 4) (v := .int .i64 x.s.page) rfl (by kernel_rfl) (by kernel_rfl) (by kernel_rfl) (fun _ _ _ h => h) (Or.inl ⟨by rfl, ?_⟩) hS ?_
              · rintro w6 ⟨c0, c1, c2, c3, c4, c5⟩
                go_simp
              simp only [Act.put, List.setIfInBounds_toArray, List.set_cons_zero, List.set_cons_succ, List.getElem_toArray, List.getElem_cons_zero, List.getElem_cons_succ]
              refine wpAnyH_take (i := 5) (v := .agg #[.int .i64 x.s.kind, .int .i64 x.s.region, .int .i64 x.s.page, .int .u8 (x.s.fill.toNat : Int), .bool x.s.short, .slice x.ka x.kn x.kc]) rfl (by kernel_rfl) (by kernel_rfl) (by kernel_rfl) (fun _ _ _ h => h) (Or.inl ⟨by rfl, ?_⟩) hS ?_
              · rintro w6 ⟨c0, c1, c2, c3, c4, c5⟩
                go_simp
              simp only [Act.put, List.setIfInBounds_toArray, List.set_cons_zero, List.set_cons_succ, List.getElem_toArray, List.getElem_cons_zero, List.getElem_cons_succ]
              refine wpAnyH_ready (rs := [6]) (by kernel_rfl) (by simp) ?_
              refine AllReadyH.cons rfl (fun K5 hK5 => ?_) AllReadyH.nil
              go_simp
              go_at_call 13
              (with_reducible refine (HP.out _).mono ?_)
              rintro e w2 ⟨g2, rfl, h2, h3, h4⟩
              have Z2 := Lib.hid (Z1.out.below h4)
              have K2 : Hid (Bk w2 T g2 5 _) := Lib.hid ⟨h3, Z1.out.lo.un h2⟩
              have X2 := Lib.hid (X1.out.below h4)
              clear h2 h3 h4
              have hS1 : (fun w' : World => Sbox w' wr.heap.size x) w2 := Sbox.of X2.out.has
              refine hK5.out _ _ hS1 (fun _ => ?_)
              clear hK5 K5
              refine wpAnyH_ready (rs := [7]) (by kernel_rfl) (by simp) ?_
              refine AllReadyH.cons rfl (fun K5 hK5 => ?_) AllReadyH.nil
              go_simp
              go_at_call 12
              have hq := Write_z x.s.region x.s.page (pgB x.s) g2 Z2.out (by omega) K2.out
              rw [HER.out, HW.out] at hq
              (with_reducible refine hq.mono ?_)
              clear hq
              rintro e w3 ⟨rfl, T3, h1, h2⟩
              have Z3 := Lib.hid h1
              have X3 := Lib.hid (X2.out.tn h2)
              clear h1 h2
              have hS2 : (fun w' : World => Sbox w' wr.heap.size x) w3 := Sbox.of X3.out.has
              refine hK5.out _ _ hS2 (fun _ => ?_)
              clear hK5 K5
              refine wpAnyH_take (i := 8) (v := .int .i64 er) rfl (by kernel_rfl) (by kernel_rfl) (by kernel_rfl) (fun _ _ _ h => h) (Or.inl ⟨by rfl, ?_⟩) hS2 ?_
              · rintro w6 ⟨c0, c1, c2, c3, c4, c5⟩
                go_simp
              simp only [Act.put, List.setIfInBounds_toArray, List.set_cons_zero, List.set_cons_succ, List.getElem_toArray, List.getElem_cons_zero, List.getElem_cons_succ]
              refine wpAnyH_done (by kernel_rfl) ?_ _
              refine hK _ _ ?_
              go_wp2
              go_roundw
              case rel => exact ⟨k + 1, m, r, T3, by omega, by omega, by go_num, rfl, Z3.out, HR.out⟩
              case measure => simp [intOf]; omega
          · obtain ⟨r', h1, h3, h4⟩ := rf_may HR.out hmay
            have HW := Lib.hid h1
            have HR3 := Lib.hid h3
            rw [her] at h4
            simp only [mayB, Bool.and_eq_true, Bool.not_eq_true', decide_eq_true_eq] at hmay
            obtain ⟨⟨f1, f2, f3⟩, f4⟩ := hmay
            have e1 : (x.s.region == 0) = true := by simpa using f1
            have e2 : decide (0 ≤ x.s.page) = true := by simpa using f2
            have e3 : decide (x.s.page < 4) = true := by simpa using f3
            have e4 : (!x.s.short) = true := by simpa using f4
            clear f1 f2 f3 f4
            by_cases hma : m < a
            · have q1 : (er == 0) = true := by simpa using h4.2 hma
              have q2 : decide ((m : Int) < (a : Int)) = true := by simpa using hma
              clear h1 h3 h4 her
              go_wp2
              have hS : (fun w' : World => Sbox w' wr.heap.size x) _ := Sbox.of X1.out.has
              rename_i K hK
              refine wp_held (fun w' : World => Sbox w' wr.heap.size x) K hmx ?_ (fun _ _ h => h)
              refine wpAnyH_take (i := 0) (v := .pointer (some ⟨D, 0, none⟩)) rfl (by kernel_rfl) (by kernel_rfl) (by kernel_rfl) (fun _ _ _ h => h) (Or.inl ⟨by rfl, ?_⟩) hS ?_
              · rintro w6 ⟨c0, c1, c2, c3, c4, c5⟩
                go_simp
              simp only [Act.put, List.setIfInBounds_toArray, List.set_cons_zero, List.set_cons_succ, List.getElem_toArray, List.getElem_cons_zero]
              refine wpAnyH_take (i := 1) (v := .pointer (some ⟨wr.heap.size, 1, none⟩)) rfl (by kernel_rfl) (by kernel_rfl) (by kernel_rfl) (fun _ _ _ h => h) (Or.inl ⟨by rfl, ?_⟩) hS ?_
              · rintro w6 ⟨c0, c1, c2, c3, c4, c5⟩
                go_simp
              simp only [Act.put, List.setIfInBounds_toArray, List.set_cons_zero, List.set_cons_succ, List.getElem_toArray, List.getElem_cons_zero, List.getElem_cons_succ]
              refine wpAnyH_take (i := 2) (v := .int .i64 x.s.region) rfl (by kernel_rfl) (by kernel_rfl) (by kernel_rfl) (fun _ _ _ h => h) (Or.inl ⟨by rfl, ?_⟩) hS ?_
              · rintro w6 ⟨c0, c1, c2, c3, c4, c5⟩
                go_simp
              simp only [Act.put, List.setIfInBounds_toArray, List.set_cons_zero, List.set_cons_succ, List.getElem_toArray, List.getElem_cons_zero, List.getElem_cons_succ]
              refine wpAnyH_take (i := 3) (v := .pointer (some ⟨wr.heap.size, 2, none⟩)) rfl (by kernel_rfl) (by kernel_rfl) (by kernel_rfl) (fun _ _ _ h => h) (Or.inl ⟨by rfl, ?_⟩) hS ?_
              · rintro w6 ⟨c0, c1, c2, c3, c4, c5⟩
                go_simp
              simp only [Act.put, List.setIfInBounds_toArray, List.set_cons_zero, List.set_cons_succ, List.getElem_toArray, List.getElem_cons_zero, List.getElem_cons_succ]
              refine wpAnyH_take (i := 4) (v := .int .i64 x.s.page) rfl (by kernel_rfl) (by kernel_rfl) (by kernel_rfl) (fun _ _ _ h => h) (Or.inl ⟨by rfl, ?_⟩) hS ?_
              · rintro w6 ⟨c0, c1, c2, c3, c4, c5⟩
                go_simp
              simp only [Act.put, List.setIfInBounds_toArray, List.set_cons_zero, List.set_cons_succ, List.getElem_toArray, List.getElem_cons_zero, List.getElem_cons_succ]
              refine wpAnyH_take (i := 5) (v := .agg #[.int .i64 x.s.kind, .int .i64 x.s.region, .int .i64 x.s.page, .int .u8 (x.s.fill.toNat : Int), .bool x.s.short, .slice x.ka x.kn x.kc]) rfl (by kernel_rfl) (by kernel_rfl) (by kernel_rfl) (fun _ _ _ h => h) (Or.inl ⟨by rfl, ?_⟩) hS ?_
              · rintro w6 ⟨c0, c1, c2, c3, c4, c5⟩
                go_simp
              simp only [Act.put, List.setIfInBounds_toArray, List.set_cons_zero, List.set_cons_succ, List.getElem_toArray, List.getElem_cons_zero, List.getElem_cons_succ]
              refine wpAnyH_ready (rs := [6]) (by kernel_rfl) (by simp) ?_
              refine AllReadyH.cons rfl (fun K5 hK5 => ?_) AllReadyH.nil
              go_simp
              go_at_call 13
              (with_reducible refine (HP.out _).mono ?_)
              rintro e w2 ⟨g2, rfl, h2, h3, h4⟩
              have Z2 := Lib.hid (Z1.out.below h4)
              have K2 : Hid (Bk w2 T g2 5 _) := Lib.hid ⟨h3, Z1.out.lo.un h2⟩
              have X2 := Lib.hid (X1.out.below h4)
              clear h2 h3 h4
              have hS1 : (fun w' : World => Sbox w' wr.heap.size x) w2 := Sbox.of X2.out.has
              refine hK5.out _ _ hS1 (fun _ => ?_)
              clear hK5 K5
              refine wpAnyH_ready (rs := [7]) (by kernel_rfl) (by simp) ?_
              refine AllReadyH.cons rfl (fun K5 hK5 => ?_) AllReadyH.nil
              go_simp
              go_at_call 12
              have hq := Write_z x.s.region x.s.page (pgB x.s) g2 Z2.out (by omega) K2.out
              rw [HER.out, HW.out] at hq
              (with_reducible refine hq.mono ?_)
              clear hq
              rintro e w3 ⟨rfl, T3, h1, h2⟩
              have Z3 := Lib.hid h1
              have X3 := Lib.hid (X2.out.tn h2)
              clear h1 h2
              have hS2 : (fun w' : World => Sbox w' wr.heap.size x) w3 := Sbox.of X3.out.has
              refine hK5.out _ _ hS2 (fun _ => ?_)
              clear hK5 K5
              refine wpAnyH_take (i := 8) (v := .int .i64 er) rfl (by kernel_rfl) (by kernel_rfl) (by kernel_rfl) (fun _ _ _ h => h) (Or.inl ⟨by rfl, ?_⟩) hS2 ?_
              · rintro w6 ⟨c0, c1, c2, c3, c4, c5⟩
                go_simp
              simp only [Act.put, List.setIfInBounds_toArray, List.set_cons_zero, List.set_cons_succ, List.getElem_toArray, List.getElem_cons_zero, List.getElem_cons_succ]
              refine wpAnyH_done (by kernel_rfl) ?_ _
              refine hK _ _ ?_
              go_wp2
              go_roundw
              case rel => exact ⟨k + 1, m + 1, r', T3, by omega, by omega, by go_num, by go_num, Z3.out, HR3.out⟩
              case measure => simp [intOf]; omega
            · have q1 : (er == 0) = false := by simpa using fun e => hma (h4.1 e)
              have q2 : decide ((m : Int) < (a : Int)) = false := by simp; omega
              clear h1 h3 h4 her
              go_wp2
              have hS : (fun w' : World => Sbox w' wr.heap.size x) _ := Sbox.of X1.out.has
              rename_i K hK
              refine wp_held (fun w' : World => Sbox w' wr.heap.size x) K hmx ?_ (fun _ _ h => h)
              refine wpAnyH_take (i := 0) (v := .pointer (some ⟨D, 0, none⟩)) rfl (by kernel_rfl) (by kernel_rfl) (by kernel_rfl) (fun _ _ _ h => h) (Or.inl ⟨by rfl, ?_⟩) hS ?_
              · rintro w6 ⟨c0, c1, c2, c3, c4, c5⟩
                go_simp
              simp only [Act.put, List.setIfInBounds_toArray, List.set_cons_zero, List.set_cons_succ, List.getElem_toArray, List.getElem_cons_zero]
              refine wpAnyH_take (i := 1) (v := .pointer (some ⟨wr.heap.size, 1, none⟩)) rfl (by kernel_rfl) (by kernel_rfl) (by kernel_rfl) (fun _ _ _ h => h) (Or.inl ⟨by rfl, ?_⟩) hS ?_
              · rintro w6 ⟨c0, c1, c2, c3, c4, c5⟩
                go_simp
              simp only [Act.put, List.setIfInBounds_toArray, List.set_cons_zero, List.set_cons_succ, List.getElem_toArray, List.getElem_cons_zero, List.getElem_cons_succ]
              refine wpAnyH_take (i := 2) (v := .int .i64 x.s.region) rfl (by kernel_rfl) (by kernel_rfl) (by kernel_rfl) (fun _ _ _ h => h) (Or.inl ⟨by rfl, ?_⟩) hS ?_
              · rintro w6 ⟨c0, c1, c2, c3, c4, c5⟩
                go_simp
              simp only [Act.put, List.setIfInBounds_toArray, List.set_cons_zero, List.set_cons_succ, List.getElem_toArray, List.getElem_cons_zero, List.getElem_cons_succ]
              refine wpAnyH_take (i := 3) (v := .pointer (some ⟨wr.heap.size, 2, none⟩)) rfl (by kernel_rfl) (by kernel_rfl) (by kernel_rfl) (fun _ _ _ h => h) (Or.inl ⟨by rfl, ?_⟩) hS ?_
              · rintro w6 ⟨c0, c1, c2, c3, c4, c5⟩
                go_simp
              simp only [Act.put, List.setIfInBounds_toArray, List.set_cons_zero, List.set_cons_succ, List.getElem_toArray, List.getElem_cons_zero, List.getElem_cons_succ]
              refine wpAnyH_take (i := 4) (v := .int .i64 x.s.page) rfl (by kernel_rfl) (by kernel_rfl) (by kernel_rfl) (fun _ _ _ h => h) (Or.inl ⟨by rfl, ?_⟩) hS ?_
              · rintro w6 ⟨c0, c1, c2, c3, c4, c5⟩
                go_simp
              simp only [Act.put, List.setIfInBounds_toArray, List.set_cons_zero, List.set_cons_succ, List.getElem_toArray, List.getElem_cons_zero, List.getElem_cons_succ]
              refine wpAnyH_take (i := 5) (v := .agg #[.int .i64 x.s.kind, .int .i64 x.s.region, .int .i64 x.s.page, .int .u8 (x.s.fill.toNat : Int), .bool x.s.short, .slice x.ka x.kn x.kc]) rfl (by kernel_rfl) (by kernel_rfl) (by kernel_rfl) (fun _ _ _ h => h) (Or.inl ⟨by rfl, ?_⟩) hS ?_
              · rintro w6 ⟨c0, c1, c2, c3, c4, c5⟩
                go_simp
              simp only [Act.put, List.setIfInBounds_toArray, List.set_cons_zero, List.set_cons_succ, List.getElem_toArray, List.getElem_cons_zero, List.getElem_cons_succ]
              refine wpAnyH_ready (rs := [6]) (by kernel_rfl) (by simp) ?_
              refine AllReadyH.cons rfl (fun K5 hK5 => ?_) AllReadyH.nil
              go_simp
              go_at_call 13
              (with_reducible refine (HP.out _).mono ?_)
              rintro e w2 ⟨g2, rfl, h2, h3, h4⟩
              have Z2 := Lib.hid (Z1.out.below h4)
              have K2 : Hid (Bk w2 T g2 5 _) := Lib.hid ⟨h3, Z1.out.lo.un h2⟩
              have X2 := Lib.hid (X1.out.below h4)
              clear h2 h3 h4
              have hS1 : (fun w' : World => Sbox w' wr.heap.size x) w2 := Sbox.of X2.out.has
              refine hK5.out _ _ hS1 (fun _ => ?_)
              clear hK5 K5
              refine wpAnyH_ready (rs := [7]) (by kernel_rfl) (by simp) ?_
              refine AllReadyH.cons rfl (fun K5 hK5 => ?_) AllReadyH.nil
              go_simp
              go_at_call 12
              have hq := Write_z x.s.region x.s.page (pgB x.s) g2 Z2.out (by omega) K2.out
              rw [HER.out, HW.out] at hq
              (with_reducible refine hq.mono ?_)
              clear hq
              rintro e w3 ⟨rfl, T3, h1, h2⟩
              have Z3 := Lib.hid h1
              have X3 := Lib.hid (X2.out.tn h2)
              clear h1 h2
              have hS2 : (fun w' : World => Sbox w' wr.heap.size x) w3 := Sbox.of X3.out.has
              refine hK5.out _ _ hS2 (fun _ => ?_)
              clear hK5 K5
              refine wpAnyH_take (i := 8) (v := .int .i64 er) rfl (by kernel_rfl) (by kernel_rfl) (by kernel_rfl) (fun _ _ _ h => h) (Or.inl ⟨by rfl, ?_⟩) hS2 ?_
              · rintro w6 ⟨c0, c1, c2, c3, c4, c5⟩
                go_simp
              simp only [Act.put, List.setIfInBounds_toArray, List.set_cons_zero, List.set_cons_succ, List.getElem_toArray, List.getElem_cons_zero, List.getElem_cons_succ]
              refine wpAnyH_done (by kernel_rfl) ?_ _
              refine hK _ _ ?_
              go_wp2
              go_roundw
              case rel => exact ⟨k + 1, m + 1, r', T3, by omega, by omega, by go_num, by go_num, Z3.out, HR3.out⟩
              case measure => simp [intOf]; omega
        · have e0 : (x.s.kind != 0) = true := by simpa using hk0
          have Z1 := Lib.hid (HZ.out.below ((Below.refl _ wr).alloc (Nat.le_refl _) (.cells x.cells 35)))
          go_wp2
          go_roundw
          case rel => exact ⟨k + 1, m, r, T, by omega, by omega, by go_num, rfl, Z1.out.more (by omega), HR.out⟩
          case measure => simp [intOf]; omega
      · obtain rfl : k = n := by omega
        have hmx : Try.prog.follows .mixedOrders = true := by kernel_rfl
        obtain ⟨hre, hlo⟩ := rf_end HR.out
        have HLO := Lib.hid hlo
        have hRd := fun w1 (h1 : Dz w w1 T 0 D DA k [r]) => Read_z 0 0 h1
        rw [hre] at hRd
        clear hlo
        by_cases hma : m ≤ a
        · rw [if_pos hma] at hRd
          have HRD := Lib.hid hRd
          clear hRd hre
          have q2 : decide ((m : Int) ≤ (a : Int)) = true := by simpa using hma
          have HMA := Lib.hid hma
          go_wp2_with (first
            | (go_at_call 21; (with_reducible refine (HRD.out _ HZ.out).mono ?_); intro e w4 hr; obtain ⟨h1, gx, rfl, h3, h4, h5⟩ := rd_ok hr; have Z4 := Lib.hid (HZ.out.below h1); have X4 : Hid (Bk w4 T gx 88 _) := Lib.hid ⟨h4, HZ.out.lo.un h3⟩; have LX : Hid (w.heap.size ≤ gx) := Lib.hid (Nat.le_trans HZ.out.bel.size h3); clear hr h1 h3 h4)
            | (go_at_call 21; (with_reducible refine (HRD.out _ Z4.out).mono ?_); intro e w5 hr; obtain ⟨h1, gy, rfl, h3, h4, h5⟩ := rd_ok hr; have Z5 := Lib.hid (Z4.out.below h1); have X5 := Lib.hid (X4.out.below h1); have Y5 : Hid (Bk w5 T gy 88 _) := Lib.hid ⟨h4, Z4.out.lo.un h3⟩; have NE : Hid (gy ≠ gx) := Lib.hid (by have := X4.out.has.lt; omega); clear hr h1 h3 h4))
          obtain ⟨lx, hlx⟩ : ∃ q, rdL [r] 0 0 = q := ⟨_, rfl⟩
          rw [hlx] at X5 Y5
          have HLX := Lib.hid hlx
          go_loopw [18] (fun i wr => ∃ (j : Nat) (l' : List UInt8), j ≤ 128 ∧ i = .int .i64 (j : Int) ∧ l'.length = 128 ∧ Bk wr T gx 88 (l'.map byteV).toArray ∧ Bk wr T gy 88 (lx.map byteV).toArray ∧ Dz w wr T 0 D DA k [r]) (fun i _ => 128 - (intOf i).toNat)
          case atStart => exact ⟨0, lx, Nat.zero_le _, rfl, by rw [← hlx]; exact h5, X5.out, Y5.out, Z5.out⟩
          case round =>
            obtain ⟨j, l', hj, rfl, hl', hbx, hby, hz⟩ := hrel
            have BX := Lib.hid hbx
            have BY := Lib.hid hby
            have HZ2 := Lib.hid hz
            have HL' := Lib.hid hl'
            by_cases hlt2 : j < 128
            · have i2 : (j : Int) < 128 := by omega
              have i3 : (0 : Int) ≤ (j : Int) := by omega
              obtain ⟨u, hu⟩ : ∃ u, l'[j]? = some u := ⟨_, List.getElem?_eq_getElem (by omega)⟩
              have cu : wr.cell? ⟨gx, j, none⟩ = some (.int .u8 (u.toNat : Int)) := by
                rw [hbx.has.cell]
                simp [hu, byteV]
              have fu := hbx.has.free j
              have hst := hbx.has.store j (byteV (u + 1))
              have B1 : Hid (Bk (wr.setCell ⟨gx, j, none⟩ (byteV (u + 1))) T gx 88 ((l'.set j (u + 1)).map byteV).toArray) := Lib.hid ⟨by simpa using hst, hbx.un⟩
              have B2 : Hid (Bk (wr.setCell ⟨gx, j, none⟩ (byteV (u + 1))) T gy 88 (lx.map byteV).toArray) := Lib.hid ⟨hby.has.away (p := ⟨gx, j, none⟩) NE.out _, hby.un⟩
              have B3 : Hid (Dz w (wr.setCell ⟨gx, j, none⟩ (byteV (u + 1))) T 0 D DA k [r]) := Lib.hid (hz.away (p := ⟨gx, j, none⟩) hbx.un LX.out _)
              have hwu : IntKind.u8.wrap ((u.toNat : Int) + 1) = ((u + 1).toNat : Int) := wrap_u8 u
              unfold byteV at B1 B2 B3
              clear hbx hby hz hst hu hl' h5
              go_wp2
              go_roundw
              case rel => exact ⟨j + 1, l'.set j (u + 1), by omega, by go_num, by rw [List.length_set]; exact HL'.out, B1.out, B2.out, B3.out⟩
              case measure => simp [intOf]; omega
            · obtain rfl : j = 128 := by omega
              have HMN : Hid (min m a = m) := Lib.hid (by have := HMA.out; omega)
              clear hbx hby hz hl' h5
              go_wp2_with (first
                | (go_at_call 21; (with_reducible refine (HRD.out _ HZ2.out).mono ?_); intro e w6 hr; obtain ⟨h1, gz, rfl, h3, h4, h5⟩ := rd_ok hr; have Z6 := Lib.hid (HZ2.out.below h1); have Y6 := Lib.hid (BY.out.below h1); have V6 : Hid (Bk w6 T gz 88 _) := Lib.hid ⟨h4, HZ2.out.lo.un h3⟩; rw [HLX.out] at V6; have sy := str_reads (n := 128) (c := 128) (by rw [← HLX.out]; exact h5.symm) Y6.out.reads; have sz := str_reads (n := 128) (c := 128) (by rw [← HLX.out]; exact h5.symm) V6.out.reads; clear hr h1 h3 h4 h5)
                | (go_at_call 25; (have hq := Loose_z 0 Z6.out (by omega)); unfold IntsOut at hq; rw [HLO.out, HMN.out] at hq; (with_reducible refine hq.mono ?_); clear hq; rintro e w7 ⟨vl, rfl, h1, h2⟩; obtain ⟨lA7, lc7, rfl⟩ := own_slw h1; have Z7 := Lib.hid (Z6.out.below h2); clear h1 h2))
              go_ret
              exact ⟨rfl, Z7.out.bel⟩
        · rw [if_neg hma] at hRd
          have HRD := Lib.hid hRd
          clear hRd hre
          have q2 : decide ((m : Int) ≤ (a : Int)) = false := by simp; omega
          have HMN : Hid (min m a = a) := Lib.hid (by omega)
          go_wp2_with (first
            | (go_at_call 21; (with_reducible refine (HRD.out _ HZ.out).mono ?_); intro e w4 hr; obtain ⟨h1, rfl⟩ := rd_bad hr; have Z4 := Lib.hid (HZ.out.below h1); clear hr h1)
            | (go_at_call 21; (with_reducible refine (HRD.out _ Z4.out).mono ?_); intro e w5 hr; obtain ⟨h1, rfl⟩ := rd_bad hr; have Z5 := Lib.hid (Z4.out.below h1); clear hr h1))
          go_loopw [18] (fun i wr => i = .int .i64 0 ∧ Dz w wr T 0 D DA k [r]) (fun i _ => 0)
          case atStart => exact ⟨rfl, Z5.out⟩
          case round =>
            obtain ⟨rfl, hz⟩ := hrel
            have HZ2 := Lib.hid hz
            clear hz
            go_wp2_with (first
              | (go_at_call 21; (with_reducible refine (HRD.out _ HZ2.out).mono ?_); intro e w6 hr; obtain ⟨h1, rfl⟩ := rd_bad hr; have Z6 := Lib.hid (HZ2.out.below h1); have sy := str_reads (w := w6) (n := 0) (c := 0) (A := none) (l := []) rfl Reads.empty; clear hr h1)
              | (go_at_call 25; (have hq := Loose_z 0 Z6.out (by omega)); unfold IntsOut at hq; rw [HLO.out, HMN.out] at hq; (with_reducible refine hq.mono ?_); clear hq; rintro e w7 ⟨vl, rfl, h1, h2⟩; obtain ⟨lA7, lc7, rfl⟩ := own_slw h1; have Z7 := Lib.hid (Z6.out.below h2); clear h1 h2))
            go_ret
            exact ⟨rfl, Z7.out.bel⟩

end Go.Proofs.Ythbchloghbfnmaa
