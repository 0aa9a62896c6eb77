/- The first step of the laws of layer 6 (the document's example, and a write that stays): it answers true, and turns nothing that was there. -/
import Derived.Test.YthbchloghbfnmaaDlw
namespace Go.Proofs.Ythbchloghbfnmaa
open Go.RowKit
set_option linter.unusedVariables false

def sA : St := ⟨0, 0, 0, 7, false, []⟩
def sB : St := ⟨0, 0, 0, 8, false, []⟩
def q0 : List Rg := [4, 5].map fun x : Int => fresh6 x.toNat
def q1 : List Rg := (wrA q0 1 4 (pgB sA)).1
def q2 : List Rg := crA [] q1
def q3 : List Rg := (wrA q2 1 4 (pgB sB)).1
def q4 : List Rg := (syA q3 1).1
def q5 : List Rg := crA [] q4
theorem ex_new : newB [4, 5] = true := by decide
structure Aw (q0 q1 q2 q3 q4 q5 : List Rg) (lA lB lZ : List UInt8) : Prop where
  m0 : ([4, 5].map fun x : Int => fresh6 x.toNat) = q0
  w1 : (wrA q0 1 4 lA).1 = q1
  v1 : (wrA q0 1 4 lA).2 = 0
  r1 : rdL q1 1 4 = lA
  e1 : rdE q1 1 4 = 0
  l1 : looL q1 1 = [4]
  n1 : q1.length ≤ 1000
  c2 : crA [] q1 = q2
  r2 : rdL q2 1 4 = lZ
  e2 : rdE q2 1 4 = 0
  w3 : (wrA q2 1 4 lB).1 = q3
  v3 : (wrA q2 1 4 lB).2 = 0
  w4 : (syA q3 1).1 = q4
  v4 : (syA q3 1).2 = 0
  n4 : q4.length ≤ 1000
  c5 : crA [] q4 = q5
  r5 : rdL q5 1 4 = lB
  e5 : rdE q5 1 4 = 0
  k0 : lenN q5 0 = 4
  k2 : lenN q5 2 = 0
  pA : pgB sA = lA
  pB : pgB sB = lB
  fA : lA = 7 :: List.replicate 127 7
  fB : lB = 8 :: List.replicate 127 8
  fZ : lZ = 0 :: List.replicate 127 0
set_option maxRecDepth 100000 in
theorem aw_there : Aw q0 q1 q2 q3 q4 q5 (pgB sA) (pgB sB) zeros :=
  ⟨by kernel_rfl, by kernel_rfl, by kernel_rfl, by decide +kernel, by decide +kernel, by decide +kernel, by decide +kernel, by kernel_rfl, by decide +kernel, by decide +kernel, by kernel_rfl, by kernel_rfl, by kernel_rfl, by kernel_rfl, by decide +kernel, by kernel_rfl, by decide +kernel, by decide +kernel, by decide +kernel, by decide +kernel, rfl, rfl, by decide +kernel, by decide +kernel, by decide +kernel⟩
theorem rd_ok {l : List UInt8} {w w' : World} {e : Ending} (h : RdEnd l 0 w e w') : Below w.heap.size w w' ∧ ∃ g, e = .returned (.tuple #[.slice (some ⟨g, 0, none⟩) 128 128, .int .i64 0]) ∧ w.heap.size ≤ g ∧ Has w' g 88 (l.map byteV).toArray ∧ l.length = 128 := by
  obtain ⟨hb, h | ⟨_, h⟩⟩ := h
  · exact absurd rfl h.1
  · exact ⟨hb, h⟩
theorem Bk.first {w : World} {T : Tg} {g : Nat} {t : TypeId} {f : UInt8} {l : List UInt8} (h : Bk w T g t ((f :: l).map byteV).toArray) : w.cell? ⟨g, 0, none⟩ = some (.int .u8 (f.toNat : Int)) := by
  rw [h.has.cell]
  simp [byteV]
theorem crash_nil_z {w0 w : World} {T : Tg} {d D A N : Nat} {rs : List Rg} (h : Dz w0 w T d D A N rs) (hN : N ≤ 1000) (hl : rs.length ≤ 1000) : Calls Try.prog 19 #[.pointer (some ⟨D, 0, none⟩), .slice none 0 0] w (DzEnd (.tuple #[]) w0 w T d D A N (crA [] rs)) :=
  Crash_z none 0 0 [] h hN ⟨rfl, Reads.empty, Nat.zero_le _, by simp⟩ (fun h => absurd h (Nat.lt_irrefl 0)) hl
set_option maxRecDepth 100000 in
set_option maxHeartbeats 4000000 in
theorem awake06_any (w : World) : Calls Try.prog 8 #[] w fun e w' => e = .returned (.bool true) ∧ Below w.heap.size w w' := by
  have HP1 := Lib.hid (fun w1 => show Calls Try.prog 13 #[.agg #[.int .i64 0, .int .i64 0, .int .i64 0, .int .u8 7, .bool false, .slice none 0 0]] w1 (PgEnd (pgB sA) w1) from page_any sA (.slice none 0 0) rfl w1)
  have HP2 := Lib.hid (fun w1 => show Calls Try.prog 13 #[.agg #[.int .i64 0, .int .i64 0, .int .i64 0, .int .u8 8, .bool false, .slice none 0 0]] w1 (PgEnd (pgB sB) w1) from page_any sB (.slice none 0 0) rfl w1)
  obtain ⟨W, hW⟩ : ∃ W, w.alloc (.cells #[.int .i64 4, .int .i64 5] 3) = W := ⟨_, rfl⟩
  have hI : Ints6 W (some ⟨w.heap.size, 0, none⟩) 2 [4, 5] := hW ▸ ints_lit w [4, 5] _ rfl
  have hBW : Below w.heap.size w W := hW ▸ (Below.refl _ w).alloc (Nat.le_refl _) _
  have hNew := New_z (w0 := w) (c := 2) 0 hI (lo_none _ _) hBW ex_new
  clear hI hBW
  have hq := aw_there
  generalize q0 = q0, q1 = q1, q2 = q2, q3 = q3, q4 = q4, q5 = q5, pgB sA = lA, pgB sB = lB, zeros = lZ at hq HP1 HP2
  rw [hq.m0] at hNew
  have HNew := Lib.hid hNew
  clear hNew
  have HQ := Lib.hid hq
  clear hq
  go_enter Try.func8, Try.ntmps8
  go_wp2_with (first
    | (go_at_call 10; (with_reducible refine HNew.out.mono ?_); rintro e w1 ⟨D, A, T1, rfl, h1, _, _⟩; have Z1 := Lib.hid h1; clear h1)
    | (go_at_call 13; (with_reducible refine (HP1.out _).mono ?_); rintro e w2 ⟨g2, rfl, h2, h3, h4⟩; have Z2 := Lib.hid (Z1.out.below h4); have K2 : Hid (Bk w2 T1 g2 5 _) := Lib.hid ⟨h3, Z1.out.lo.un h2⟩; clear h2 h3 h4)
    | (go_at_call 12; have hq := Write_z 1 4 lA g2 Z2.out (by omega) K2.out; rw [HQ.out.v1, HQ.out.w1] at hq; (with_reducible refine hq.mono ?_); clear hq; rintro e w3 ⟨rfl, T3, h1, _⟩; have Z3 := Lib.hid h1; clear h1)
    | (go_at_call 21; (have hq := Read_z 1 4 Z3.out); rw [HQ.out.e1, HQ.out.r1] at hq; (with_reducible refine hq.mono ?_); clear hq; intro e w4 hr; obtain ⟨h1, gx, rfl, h3, h4, h5⟩ := rd_ok hr; have Z4 := Lib.hid (Z3.out.below h1); have X4 : Hid (Bk w4 T3 gx 88 _) := Lib.hid ⟨h4, Z3.out.lo.un h3⟩; clear hr h1 h3 h4 h5)
    | (go_at_call 25; (have hq := Loose_z 1 Z4.out (by omega)); rw [HQ.out.l1] at hq; (with_reducible refine hq.mono ?_); clear hq; rintro e w5 ⟨vl, rfl, h1, h2⟩; obtain ⟨lA5, lc, rfl⟩ := own_slw h1; have Z5 := Lib.hid (Z4.out.below h2); have X5 := Lib.hid (X4.out.below h2); clear h1 h2)
    | (go_at_call 19; have hq := crash_nil_z Z5.out (by omega) HQ.out.n1; rw [HQ.out.c2] at hq; (with_reducible refine hq.mono ?_); clear hq; rintro e w6 ⟨rfl, T6, h1, h2⟩; have Z6 := Lib.hid h1; have X6 := Lib.hid (X5.out.tn h2); clear h1 h2)
    | (go_at_call 21; (have hq := Read_z 1 4 Z6.out); rw [HQ.out.e2, HQ.out.r2] at hq; (with_reducible refine hq.mono ?_); clear hq; intro e w7 hr; obtain ⟨h1, gy, rfl, h3, h4, h5⟩ := rd_ok hr; have Z7 := Lib.hid (Z6.out.below h1); have Y7 : Hid (Bk w7 T6 gy 88 _) := Lib.hid ⟨h4, Z6.out.lo.un h3⟩; have X7 := Lib.hid (X6.out.below h1); clear hr h1 h3 h4 h5)
    | (go_at_call 13; (with_reducible refine (HP2.out _).mono ?_); rintro e w8 ⟨g8, rfl, h2, h3, h4⟩; have Z8 := Lib.hid (Z7.out.below h4); have K8 : Hid (Bk w8 T6 g8 5 _) := Lib.hid ⟨h3, Z7.out.lo.un h2⟩; have X8 := Lib.hid (X7.out.below h4); have Y8 := Lib.hid (Y7.out.below h4); clear h2 h3 h4)
    | (go_at_call 12; have hq := Write_z 1 4 lB g8 Z8.out (by omega) K8.out; rw [HQ.out.v3, HQ.out.w3] at hq; (with_reducible refine hq.mono ?_); clear hq; rintro e w9 ⟨rfl, T9, h1, h2⟩; have Z9 := Lib.hid h1; have X9 := Lib.hid (X8.out.tn h2); have Y9 := Lib.hid (Y8.out.tn h2); clear h1 h2)
    | (go_at_call 15; have hq := Sync_z 1 Z9.out (by omega); rw [HQ.out.v4, HQ.out.w4] at hq; (with_reducible refine hq.mono ?_); clear hq; rintro e w10 ⟨rfl, T10, h1, h2⟩; have Z10 := Lib.hid h1; have X10 := Lib.hid (X9.out.tn h2); have Y10 := Lib.hid (Y9.out.tn h2); clear h1 h2)
    | (go_at_call 19; have hq := crash_nil_z Z10.out (by omega) HQ.out.n4; rw [HQ.out.c5] at hq; (with_reducible refine hq.mono ?_); clear hq; rintro e w11 ⟨rfl, T11, h1, h2⟩; have Z11 := Lib.hid h1; have X11 := Lib.hid (X10.out.tn h2); have Y11 := Lib.hid (Y10.out.tn h2); clear h1 h2)
    | (go_at_call 21; (have hq := Read_z 1 4 Z11.out); rw [HQ.out.e5, HQ.out.r5] at hq; (with_reducible refine hq.mono ?_); clear hq; intro e w12 hr; obtain ⟨h1, gz, rfl, h3, h4, h5⟩ := rd_ok hr; have Z12 := Lib.hid (Z11.out.below h1); have V12 : Hid (Bk w12 T11 gz 88 _) := Lib.hid ⟨h4, Z11.out.lo.un h3⟩; have X12 := Lib.hid (X11.out.below h1); have Y12 := Lib.hid (Y11.out.below h1); have cx := (HQ.out.fA ▸ X12.out).first; have cy := (HQ.out.fZ ▸ Y12.out).first; have cz := (HQ.out.fB ▸ V12.out).first; have L0 := Lib.hid (len_any 0 Z12.out.dk); have L2 := Lib.hid (len_any 2 Z12.out.dk); rw [HQ.out.k0] at L0; rw [HQ.out.k2] at L2; clear hr h1 h3 h4 h5)
    | (go_at_call 27; (with_reducible refine L0.out.mono ?_); rintro e wa ⟨rfl, rfl⟩)
    | (go_at_call 27; (with_reducible refine L2.out.mono ?_); rintro e wb ⟨rfl, rfl⟩))
  go_ret
  exact ⟨rfl, Z12.out.bel⟩

end Go.Proofs.Ythbchloghbfnmaa
