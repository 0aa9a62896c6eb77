/- The first step of the laws of layer 4 (the document's example): it answers true, and turns nothing that was there. -/
import Derived.Test.YtbgpjboefnacgaaGrk
namespace Go.Proofs.Ytbgpjboefnacgaa
open Go.RowKit
set_option linter.unusedVariables false

theorem lit_u64 (w : World) (l : List Nat) (fr : Nat × Nat) (cs : Array Value) (n : Nat) (h : cs = (l.map u64V).toArray) (hn : n = l.length) (hb : ∀ x ∈ l, x < 2 ^ 64) (hm : n ≤ 1000) : ArgU (w.alloc (.cells cs 24 fr)) (some ⟨w.heap.size, 0, none⟩) n n l :=
  ⟨hn, fun _ => ⟨w.heap.size, 0, rfl, fun j u hj => by
    subst h
    rw [World.cell?_alloc_mark]
    simpa using hj⟩, fun _ a ha => by injection ha with ha; subst ha; simp, Nat.le_refl _, by unfold maxLen; omega, hb⟩
theorem lit_G (w : World) (l : List G) (fr : Nat × Nat) (cs : Array Value) (n : Nat) (h : cs = (cellsG l).toArray) (hn : n = l.length) (hm : n ≤ 1000) : ArgG (w.alloc (.cells cs 29 fr)) (some ⟨w.heap.size, 0, none⟩) n n l :=
  ⟨hn, fun _ => ⟨w.heap.size, 0, rfl, fun j u hj => by
    subst h
    rw [World.cell?_alloc_mark]
    simpa using hj⟩, fun _ a ha => by injection ha with ha; subst ha; simp, Nat.le_refl _, by unfold maxLen; omega⟩

def g1 : G := ⟨1, 1, 0⟩
theorem ex_get : getG4 (putG [g1]) = ([g1], 0) := by decide +kernel
theorem ex_len : (putG [g1]).length ≤ 100000 := by decide +kernel
def Get1 (w : World) (e : Ending) (w' : World) : Prop := ∃ A c, e = .returned (.tuple #[.slice A 1 c, .int .i64 0]) ∧ ArgG w' A 1 c [g1] ∧ Below w.heap.size w w'
theorem get1 (A : Option Addr) (c : Nat) (w : World) (ht : Base4 w) (hc : (putG [g1]).length ≤ c) (h : Reads w A ((putG [g1]).map byteV)) :
    Calls Try.prog 20 #[.slice A (putG [g1]).length c] w (Get1 w) := by
  have hh := gGet_any (putG [g1]) A _ c w ht rfl hc ex_len h
  rw [ex_get] at hh
  refine hh.mono ?_
  rintro e w' ⟨A, n, c, he, h1, _, h2⟩
  obtain rfl : n = 1 := h1.len
  exact ⟨A, c, he, h1, h2⟩

/-- What the region reads (n: the lattice's block, p: the grant's box). -/
def Ex4 (n p : Nat) (w : World) : Prop := Base4 w ∧ ArgU w (some ⟨n, 0, none⟩) 2 2 [3, 2] ∧ p < w.heap.size ∧ w.cell? ⟨p, 0, none⟩ = some (.int .i64 1) ∧ w.cell? ⟨p, 1, none⟩ = some (.int .i64 1) ∧ w.cell? ⟨p, 2, none⟩ = some (.int .i64 0)
theorem Ex4.below {n p : Nat} {w w' : World} (h : Ex4 n p w) (hb : Below w.heap.size w w') : Ex4 n p w' := by
  obtain ⟨h0, h2, h1, h4, h5, h6⟩ := h
  refine ⟨h0.below hb, h2.below hb, Nat.lt_of_lt_of_le h1 hb.size, ?_, ?_, ?_⟩
  · rw [← h4]; exact hb.cell h1
  · rw [← h5]; exact hb.cell h1
  · rw [← h6]; exact hb.cell h1
theorem Ex4.base {n p : Nat} {w : World} (h : Ex4 n p w) : Base4 w := h.1
theorem Ex4.ups {n p : Nat} {w : World} (h : Ex4 n p w) : ArgU w (some ⟨n, 0, none⟩) 2 2 [3, 2] := h.2.1
theorem Ex4.box {n : Nat} {w : World} (h0 : Base4 w) (h : ArgU w (some ⟨n, 0, none⟩) 2 2 [3, 2]) : Ex4 n w.heap.size (w.alloc (.cells #[.int .i64 1, .int .i64 1, .int .i64 0] 29)) := by
  have hb := (Below.refl w.heap.size w).alloc (Nat.le_refl _) (.cells #[.int .i64 1, .int .i64 1, .int .i64 0] 29)
  refine ⟨h0.below hb, h.below hb, by simp, ?_, ?_, ?_⟩ <;> (rw [World.cell?_alloc_mark]; simp)

theorem Ex4.cells {n p : Nat} {w : World} (h : Ex4 n p w) : w.cell? ⟨p, 0, none⟩ = some (.int .i64 1) ∧ w.cell? ⟨p, 1, none⟩ = some (.int .i64 1) ∧ w.cell? ⟨p, 2, none⟩ = some (.int .i64 0) := h.2.2.2
def g2 : G := ⟨1, 0, 1⟩
theorem ex_fits : fitsG [3, 2] g1 = true := by decide
theorem ex_fits2 : fitsG [3, 2] g2 = false := by decide
theorem ex_check : checkG [3, 2] [g1] = true := by decide
theorem ex_check2 : checkG [3, 2] [g1, g1] = false := by decide
theorem three_hi (x i : Nat) (h : x < 4) : x.testBit (i + 2) = false := Nat.testBit_lt_two_pow (by
  have : 2 ^ 2 ≤ 2 ^ (i + 2) := Nat.pow_le_pow_right (by omega) (by omega)
  omega)
theorem ex_src : srcN [3, 2] [g1] 1 = 3 := by
  apply Eq.symm
  apply srcN_is
  intro i
  have h0 : Src [3, 2] [g1] 1 0 := .base (by decide) (by decide)
  have h1 : Src [3, 2] [g1] 1 1 := Src.act (g := g1) (by simp) ex_fits h0
  match i with
  | 0 => exact ⟨fun _ => h0, fun _ => by decide⟩
  | 1 => exact ⟨fun _ => h1, fun _ => by decide⟩
  | i + 2 => exact ⟨fun h => absurd h (by rw [three_hi 3 i (by omega)]; simp), fun h => absurd h.lt (by simp)⟩
theorem ex_src0 : srcN [3, 2] [] 1 = 1 := by
  apply Eq.symm
  apply srcN_is
  intro i
  have h0 : Src [3, 2] [] 1 0 := .base (by decide) (by decide)
  have hz : ∀ j, Src [3, 2] [] 1 j → j = 0 := src_least (fun j => j = 0) (fun j hj hx => by
    have : j = 0 ∨ j = 1 := by simp at hj; omega
    rcases this with rfl | rfl
    · rfl
    · exact absurd hx (by decide)) (fun a b hb hl => by
    subst hb
    have ha := (lq_iff.1 hl).2.1
    have : a = 0 ∨ a = 1 := by simp at ha; omega
    rcases this with rfl | rfl
    · rfl
    · exact absurd hl (by decide)) (fun g hg => by simp at hg)
  match i with
  | 0 => exact ⟨fun _ => h0, fun _ => by decide⟩
  | 1 => exact ⟨fun h => absurd h (by decide), fun h => absurd (hz 1 h) (by decide)⟩
  | i + 2 => exact ⟨fun h => absurd h (by rw [three_hi 1 i (by omega)]; simp), fun h => absurd h.lt (by simp)⟩
theorem ex_may : mayG [g1] g1 = true := by decide
theorem ex_less : lessG g0 g1 = true := by decide
theorem ft1 {n p : Nat} {w : World} (h : Ex4 n p w) : Calls Try.prog 12 #[.slice (some ⟨n, 0, none⟩) 2 2, .agg #[.int .i64 1, .int .i64 1, .int .i64 0]] w (BoolEnd true w) := by
  have := gFits_any [3, 2] _ 2 2 g1 w h.base lat32 h.ups
  rw [ex_fits] at this; exact this
theorem ft2 {n p : Nat} {w : World} (h : Ex4 n p w) : Calls Try.prog 12 #[.slice (some ⟨n, 0, none⟩) 2 2, .agg #[.int .i64 1, .int .i64 0, .int .i64 1]] w (BoolEnd false w) := by
  have := gFits_any [3, 2] _ 2 2 g2 w h.base lat32 h.ups
  rw [ex_fits2] at this; exact this
theorem ck1 {n p : Nat} {w : World} (h : Ex4 n p w) {B : Option Addr} (hl : ArgG w B 1 1 [g1]) : Calls Try.prog 16 #[.slice (some ⟨n, 0, none⟩) 2 2, .slice B 1 1] w (BoolEnd true w) := by
  have := gCheck_any [3, 2] _ _ 2 2 1 1 [g1] w h.base lat32 h.ups hl (by omega)
  rwa [ex_check] at this
theorem ck2 {n p : Nat} {w : World} (h : Ex4 n p w) {B : Option Addr} (hl : ArgG w B 2 2 [g1, g1]) : Calls Try.prog 16 #[.slice (some ⟨n, 0, none⟩) 2 2, .slice B 2 2] w (BoolEnd false w) := by
  have := gCheck_any [3, 2] _ _ 2 2 2 2 [g1, g1] w h.base lat32 h.ups hl (by omega)
  rwa [ex_check2] at this
theorem sr1 {n p : Nat} {w : World} (h : Ex4 n p w) {B : Option Addr} (hl : ArgG w B 1 1 [g1]) : Calls Try.prog 18 #[.slice (some ⟨n, 0, none⟩) 2 2, .slice B 1 1, .int .u64 1] w (U64End 3 w) := by
  have := gSources_any [3, 2] _ _ 2 2 1 1 1 [g1] w h.base lat32 h.ups hl (by omega) (by decide)
  rwa [ex_src] at this
theorem argG_none (w : World) : ArgG w none 0 0 [] := ⟨rfl, fun h => absurd h (by simp [cellsG]), fun h => absurd h (by omega), Nat.le_refl _, by unfold maxLen; omega⟩
theorem sr0 {n p : Nat} {w : World} (h : Ex4 n p w) : Calls Try.prog 18 #[.slice (some ⟨n, 0, none⟩) 2 2, .slice none 0 0, .int .u64 1] w (U64End 1 w) := by
  have := gSources_any [3, 2] _ _ 2 2 0 0 1 [] w h.base lat32 h.ups (argG_none w) (by omega) (by decide)
  rwa [ex_src0] at this
theorem my1 {n p : Nat} {w : World} (h : Ex4 n p w) {A : Option Addr} {c : Nat} (hl : ArgG w A 1 c [g1]) : Calls Try.prog 14 #[.slice A 1 c, .agg #[.int .i64 1, .int .i64 1, .int .i64 0]] w (BoolEnd true w) := by
  have := gMay_any _ 1 c [g1] g1 w h.base hl (by omega)
  rw [ex_may] at this; exact this
theorem ls1 {n p : Nat} {w : World} (h : Ex4 n p w) : Calls Try.prog 10 #[.agg #[.int .i64 0, .int .i64 0, .int .i64 0], .agg #[.int .i64 1, .int .i64 1, .int .i64 0]] w (BoolEnd true w) := by
  have := gLess_any g0 g1 w h.base
  rw [ex_less] at this; exact this

set_option maxRecDepth 100000 in
set_option maxHeartbeats 1000000 in
theorem awake04_any (w : World) (ht : Base4 w) : Calls Try.prog 8 #[] w fun e w' => e = .returned (.bool true) ∧ Below w.heap.size w w' := by
  have HT := Lib.hid ht
  clear ht
  go_enter Try.func8, Try.ntmps8
  have hUa := lit_u64 w [3, 2] (0, 0) _ 2 rfl rfl (by decide) (by omega)
  have hBa := (Below.refl w.heap.size w).alloc (Nat.le_refl _) (.cells #[.int .u64 3, .int .u64 2] 24)
  obtain ⟨wa, hwa⟩ : ∃ x, w.alloc (.cells #[.int .u64 3, .int .u64 2] 24) = x := ⟨_, rfl⟩
  replace hUa : ArgU wa (some ⟨w.heap.size, 0, none⟩) 2 2 [3, 2] := by rw [← hwa]; exact hUa
  rw [hwa] at hBa
  have hEb := Ex4.box (HT.out.below hBa) hUa
  have hBb := hBa.alloc hBa.size (.cells #[.int .i64 1, .int .i64 1, .int .i64 0] 29)
  have HEb := Lib.hid hEb
  have HBb := Lib.hid hBb
  clear hEb hBb hUa hBa
  obtain ⟨p, hp⟩ : ∃ x, wa.heap.size = x := ⟨_, rfl⟩
  rw [hp] at HEb
  have HG := Lib.hid (lit_G (wa.alloc (.cells #[.int .i64 1, .int .i64 1, .int .i64 0] 29)) [g1] (0, 0) #[.int .i64 1, .int .i64 1, .int .i64 0] 1 rfl rfl (by omega))
  have hs1 : (wa.alloc (.cells #[.int .i64 1, .int .i64 1, .int .i64 0] 29)).heap.size = p + 1 := by simp [← hp]
  rw [hs1] at HG
  clear hs1
  go_wp2_with (first
    | (go_at_call 22; (with_reducible refine (gPut_any [g1] _ 1 1 _ ?_ HG.out (by omega)).mono ?_); (exact (HEb.out.below ((Below.refl _ _).alloc (Nat.le_refl _) _)).1); rintro e w1 ⟨A1, c1, rfl, h1, _, hr, hb⟩; have HE1 := Lib.hid (HEb.out.below (below_step ((Below.refl _ _).alloc (Nat.le_refl _) _) hb)); have B1 := Lib.hid (below_step (HBb.out.alloc HBb.out.size _) hb); have R1 := Lib.hid (Row.of_own hr).reads; have hc1 := h1; clear hr hb h1)
    | (go_at_call 20; (with_reducible refine (get1 A1 c1 w1 HE1.out.base hc1 R1.out).mono ?_); rintro e w2 ⟨A2, c2, rfl, hg, hb⟩; have HE2 := Lib.hid (HE1.out.below hb); have B2 := Lib.hid (below_step B1.out hb); have G2 := Lib.hid hg; clear hg hb R1 hc1 HG HEb HBb hp hwa; have hS := HE2.out.cells)
    | (go_at_call 12; (with_reducible refine (ft1 HE2.out).mono ?_); rintro e w3 ⟨rfl, h1⟩; have B3 := Lib.hid (below_step B2.out h1); have HE3 := Lib.hid (HE2.out.below h1); have G3 := Lib.hid (G2.out.below h1); clear h1 hS; have hS := HE3.out.cells)
    | (go_at_call 12; (with_reducible refine (ft2 HE3.out).mono ?_); rintro e w4 ⟨rfl, h1⟩; have B4 := Lib.hid (below_step B3.out h1); have HE4 := Lib.hid (HE3.out.below h1); have G4 := Lib.hid (G3.out.below h1); clear h1 hS; have hS := HE4.out.cells)
    | (go_at_call 16; (with_reducible refine (ck1 (HE4.out.below ((Below.refl _ w4).alloc (Nat.le_refl _) (.cells #[.int .i64 1, .int .i64 1, .int .i64 0] 29))) (lit_G w4 [g1] _ _ 1 rfl rfl (by omega))).mono ?_); rintro e w5 ⟨rfl, h1⟩; have B5 := Lib.hid (below_step (B4.out.alloc B4.out.size _) h1); have HE5 := Lib.hid (HE4.out.below (below_step ((Below.refl _ w4).alloc (Nat.le_refl _) (.cells #[.int .i64 1, .int .i64 1, .int .i64 0] 29)) h1)); have G5 := Lib.hid (G4.out.below (below_step ((Below.refl _ w4).alloc (Nat.le_refl _) (.cells #[.int .i64 1, .int .i64 1, .int .i64 0] 29)) h1)); clear h1 hS; have hS := HE5.out.cells)
    | (go_at_call 16; (with_reducible refine (ck2 (HE5.out.below ((Below.refl _ w5).alloc (Nat.le_refl _) (.cells #[.int .i64 1, .int .i64 1, .int .i64 0, .int .i64 1, .int .i64 1, .int .i64 0] 29))) (lit_G w5 [g1, g1] _ _ 2 rfl rfl (by omega))).mono ?_); rintro e w6 ⟨rfl, h1⟩; have B6 := Lib.hid (below_step (B5.out.alloc B5.out.size _) h1); have HE6 := Lib.hid (HE5.out.below (below_step ((Below.refl _ w5).alloc (Nat.le_refl _) (.cells #[.int .i64 1, .int .i64 1, .int .i64 0, .int .i64 1, .int .i64 1, .int .i64 0] 29)) h1)); have G6 := Lib.hid (G5.out.below (below_step ((Below.refl _ w5).alloc (Nat.le_refl _) (.cells #[.int .i64 1, .int .i64 1, .int .i64 0, .int .i64 1, .int .i64 1, .int .i64 0] 29)) h1)); clear h1 hS; have hS := HE6.out.cells)
    | (go_at_call 18; (with_reducible refine (sr1 (HE6.out.below ((Below.refl _ w6).alloc (Nat.le_refl _) (.cells #[.int .i64 1, .int .i64 1, .int .i64 0] 29))) (lit_G w6 [g1] _ _ 1 rfl rfl (by omega))).mono ?_); rintro e w7 ⟨rfl, h1⟩; have B7 := Lib.hid (below_step (B6.out.alloc B6.out.size _) h1); have HE7 := Lib.hid (HE6.out.below (below_step ((Below.refl _ w6).alloc (Nat.le_refl _) (.cells #[.int .i64 1, .int .i64 1, .int .i64 0] 29)) h1)); have G7 := Lib.hid (G6.out.below (below_step ((Below.refl _ w6).alloc (Nat.le_refl _) (.cells #[.int .i64 1, .int .i64 1, .int .i64 0] 29)) h1)); clear h1 hS; have hS := HE7.out.cells)
    | (go_at_call 18; (with_reducible refine (sr0 HE7.out).mono ?_); rintro e w8 ⟨rfl, h1⟩; have B8 := Lib.hid (below_step B7.out h1); have HE8 := Lib.hid (HE7.out.below h1); have G8 := Lib.hid (G7.out.below h1); clear h1 hS; have hS := HE8.out.cells)
    | (go_at_call 14; (with_reducible refine (my1 HE8.out G8.out).mono ?_); rintro e w9 ⟨rfl, h1⟩; have B9 := Lib.hid (below_step B8.out h1); have HE9 := Lib.hid (HE8.out.below h1); have G9 := Lib.hid (G8.out.below h1); clear h1 hS; have hS := HE9.out.cells)
    | (go_at_call 10; (with_reducible refine (ls1 HE9.out).mono ?_); rintro e w10 ⟨rfl, h1⟩; have B10 := Lib.hid (below_step B9.out h1); have HE10 := Lib.hid (HE9.out.below h1); have G10 := Lib.hid (G9.out.below h1); clear h1 hS; have hS := HE10.out.cells))
  go_ret
  exact ⟨rfl, B10.out⟩

end Go.Proofs.Ytbgpjboefnacgaa
