import Derived.Test.YtlfmmmgdilencaaJSul
import Derived.Test.YtlfmmmgdilencaaJPir
import Derived.Sort.AssemblyPlain
import Derived.Test.YtlfmmmgdilencaaJ07
/- Of a claim's texts, joined: Sum Pib Pic. No statement but in the last. -/
section
namespace Go.Proofs.Ytlfmmmgdilencaa
open Go.RowKit Go.Sort
set_option linter.unusedVariables false

theorem oInsU_nil (w : World) : Calls Try.prog 22 #[.slice none 0 0, .int .i64 0, .int .i64 0] w fun e w' => e = .returned (.tuple #[]) ∧ w = w' := by
  go_enter Try.func22, Try.ntmps22
  go_wp2
  go_loopw [6] (fun vi wr => vi = .int .i64 1 ∧ wr = w) (fun _ _ => 0)
  case atStart => exact ⟨rfl, rfl⟩
  case round =>
    obtain ⟨rfl, rfl⟩ := hrel
    go_wp2
    go_end0
    exact ⟨rfl, rfl⟩
theorem oPdqU_nil (w : World) : Calls Try.prog 20 #[.slice none 0 0, .int .i64 0, .int .i64 0, .int .i64 0] w fun e w' => e = .returned (.tuple #[]) ∧ w = w' := by
  have H := Lib.hid (oInsU_nil w)
  go_enter Try.func20, Try.ntmps20
  go_wp2
  go_loopw [1, 2, 3, 8, 9] (fun va vb vl vw vp wr => va = .int .i64 0 ∧ vb = .int .i64 0 ∧ vl = .int .i64 0 ∧ vw = .bool true ∧ vp = .bool true ∧ wr = w) (fun _ _ _ _ _ _ => 0)
  case atStart => exact ⟨rfl, rfl, rfl, rfl, rfl, rfl⟩
  case round =>
    obtain ⟨rfl, rfl, rfl, rfl, rfl, rfl⟩ := hrel
    go_wp2_with (go_at_call 22; (with_reducible refine H.out.mono ?_); rintro e w8 ⟨rfl, rfl⟩)
    refine bodyPost_ret (results_none rfl _ _ _) rfl ?_
    exact ⟨rfl, rfl⟩
theorem oSortU_nil (w : World) : Calls Try.prog 19 #[.slice none 0 0] w fun e w' => e = .returned (.tuple #[]) ∧ w = w' := by
  have H0 : Hid (Calls Try.prog 21 #[.int .u64 0] w fun e w' => e = .returned (.int .i64 0) ∧ w = w') := Lib.hid (bLen_any 0 (by decide) w)
  have H1 := Lib.hid (oPdqU_nil w)
  go_enter Try.func19, Try.ntmps19
  go_wp2_with (first
    | (go_at_call 21; (with_reducible refine H0.out.mono ?_); rintro e w8 ⟨rfl, rfl⟩)
    | (go_at_call 20; (with_reducible refine H1.out.mono ?_); rintro e w8 ⟨rfl, rfl⟩))
  go_end0
  exact ⟨rfl, rfl⟩
theorem oSortU_any {g off n : Nat} (c : Nat) (d : Array Nat) (W0 W : World) (h : SU W0 g off n d W) (hn : n < 65536) :
    Calls Try.prog 19 #[.slice (some ⟨g, off, none⟩) n c] W fun e w' => e = .returned (.tuple #[]) ∧ SU W0 g off n (sort ltU d) w' := by
  have H0 := Lib.hid (bLen_any n hn W)
  have hb : bitsLen n ≤ 1000 := by
    have := (bitsLen_le_iff n 16).2 (by omega)
    omega
  have H1 : Hid (Calls Try.prog 20 #[.slice (some ⟨g, off, none⟩) n c, .int .i64 0, .int .i64 (n : Int), .int .i64 (bitsLen n : Int)] W (fun e w' => e = .returned (.tuple #[]) ∧ SU W0 g off n (pdq ltU d 0 n (bitsLen n) true true) w')) := Lib.hid (oPdqU_any c W0 hn (n + 1) 0 n (bitsLen n) d W h (Nat.zero_le _) (by omega) (Nat.le_refl _) hb)
  have hs : pdq ltU d 0 n (bitsLen n) true true = sort ltU d := by
    unfold sort
    rw [h.size]
  rw [hs] at H1
  have hmost : n ≤ 9223372036854775807 := by omega
  generalize bitsLen n = z at H0 H1
  clear h hb hs
  go_enter Try.func19, Try.ntmps19
  go_wp2_with (first
    | (go_at_call 21; (with_reducible refine H0.out.mono ?_); rintro e w8 ⟨rfl, rfl⟩)
    | (go_at_call 20; (with_reducible refine H1.out.mono ?_); rintro e w8 ⟨rfl, h8⟩; have R := Lib.hid h8; clear h8))
  go_end0
  exact ⟨rfl, R.out⟩
theorem sortU_perm {n : Nat} {d d' : Array Nat} (hn : d.size = n) (h : PermIn 0 n d d') : d'.size = n ∧ d'.toList.Perm d.toList := by
  obtain ⟨h1, _, h3⟩ := h
  subst hn
  refine ⟨h1, ?_⟩
  have e1 : d'.extract 0 d.size = d' := by rw [← h1]; simp
  have e2 : d.extract 0 d.size = d := by simp
  rw [e1, e2] at h3
  exact h3
theorem sortU_rises {n : Nat} {d : Array Nat} (hn : d.size = n) (h : SortedIn ltU 0 n d) : srtN d.toList := by
  unfold srtN
  rw [List.pairwise_iff_getElem]
  intro i j hi hj hij
  rw [Array.length_toList] at hi hj
  have := h i j (Nat.zero_le _) hij (by omega)
  simpa [hi, hj, ltU] using this
theorem sortRow_any {w : World} {B : Nat} {v : Value} {l : List Nat} (h : w.ownsRow B 27 1 v l.length (l.map u64V)) (hn : l.length < 65536) (hb : ∀ x ∈ l, x < 2 ^ 64) :
    Calls Try.prog 19 #[v] w fun e w' => e = .returned (.tuple #[]) ∧ w.grownBy w' v.ownBlock ∧ ∃ A c l', v = .slice A l.length c ∧ RowU w' A l.length c l' ∧ l'.Perm l ∧ srtN l' := by
  have h' := h
  rcases h.2 with ⟨rfl, h0⟩ | ⟨g, cap, cur, rfl, hBg, hcur, h1, h2, h3, h4⟩
  · obtain rfl : l = [] := List.length_eq_zero_iff.1 h0
    refine (oSortU_nil w).mono ?_
    rintro e w' ⟨rfl, rfl⟩
    exact ⟨rfl, World.grownBy.refl _ _, none, 0, [], rfl, RowU.none_ _, List.Perm.refl _, List.Pairwise.nil⟩
  · have hS : SU w g 0 l.length l.toArray w := SU.start (by simp) (by omega) (fun i hi => by
      rw [Nat.zero_add, h.cellAt i (by omega), List.getElem?_map, List.getElem?_eq_getElem hi]
      simp [u64V, hi]) (fun i => h.frozenAt i)
    refine (oSortU_any cap l.toArray w w hS hn).mono ?_
    rintro e w' ⟨rfl, hS2⟩
    obtain ⟨hp, hs⟩ := sort_sorts ltU swoU l.toArray
    obtain ⟨p1, p2⟩ := sortU_perm (n := l.toArray.size) rfl hp
    have p2 : (sort ltU l.toArray).toList.Perm l := by simpa using p2
    refine ⟨rfl, hS2.gr, _, cap, (sort ltU l.toArray).toList, rfl, ?_, p2, sortU_rises p1 hs⟩
    have hg : g < w.heap.size := (Array.getElem?_eq_some_iff.1 hcur).1
    refine ⟨⟨p2.length_eq.symm, fun hx => ⟨g, 0, rfl, fun j u hj => ?_⟩, fun _ a ha => ?_, h1, h2, fun x hx => hb x (p2.mem_iff.1 hx)⟩, fun e => (by cases e)⟩
    · rw [List.getElem?_map] at hj
      cases hq : (sort ltU l.toArray).toList[j]? with
      | none => rw [hq] at hj; cases hj
      | some z =>
        rw [hq] at hj
        obtain rfl : u64V z = u := by simpa using hj
        obtain ⟨hj2, hz⟩ := List.getElem?_eq_some_iff.1 hq
        rw [Array.length_toList] at hj2
        have hj3 : j < l.length := by simpa [p1] using hj2
        have := hS2.cell j hj3
        rw [this]
        simp only [u64V]
        rw [← hz]
        simp [hj2]
    · injection ha with ha
      subst ha
      exact Nat.lt_of_lt_of_le hg hS2.gr.size
end Go.Proofs.Ytlfmmmgdilencaa
end

section
namespace Go.Proofs.Ytlfmmmgdilencaa
open Go.RowKit
set_option linter.unusedVariables false

theorem piAll_any {w : World} {P lo : Nat} {L : List Nat} (h : Pn w P lo L) (hl : L.length ≤ 1000) : Calls Try.prog 17 #[.pointer (some ⟨P, 0, none⟩)] w (RowEnd (allN L) w) :=
  piAll_of (fun w B v l h hn hb => sortRow_any h hn hb) h hl
end Go.Proofs.Ytlfmmmgdilencaa
end

section
namespace Go.Proofs.Ytlfmmmgdilencaa
open Go.RowKit
set_option linter.unusedVariables false

def Turn2 (w w' : World) (P mb : Nat) : Prop := Turn w w' P mb ∧ MapNew w w' P
structure PB (w0 w : World) (P mb : Nat) (L : List Nat) : Prop where
  pn : Pn w P mb L
  bel : Below w0.heap.size w0 w
  low : w0.heap.size ≤ mb
section
variable {w0 w : World} {P mb : Nat} {L : List Nat}
theorem PB.below {w' : World} (h : PB w0 w P mb L) (hb : Below w.heap.size w w') : PB w0 w' P mb L := ⟨h.pn.below hb, below_step h.bel hb, h.low⟩
theorem PB.turn {w' : World} {L' : List Nat} (h : PB w0 w P mb L) (hn : Pn w' P mb L') (hg : Turn2 w w' P mb) : PB w0 w' P mb L' := ⟨hn, hg.1.below h.bel h.low h.bel.size, h.low⟩
theorem newS (h : Below w0.heap.size w0 w) : Calls Try.prog 7 #[] w fun e w' => ∃ P mb, e = .returned (.pointer (some ⟨P, 0, none⟩)) ∧ PB w0 w' P mb [] ∧ w.heap.size ≤ P ∧ Below w.heap.size w w' ∧ Has w' P 46 #[.map none] := by
  refine (piNew_any w).mono ?_
  rintro e w' ⟨P, mb, rfl, h1, h2, h3, h4, h5⟩
  exact ⟨P, mb, rfl, ⟨h1, below_step h h4, Nat.le_trans h.size h3⟩, h2, h4, h5⟩
theorem pinS (v : Nat) (h : PB w0 w P mb L) (hv : v < 2 ^ 64) (hl : L.length ≤ 1000) : Calls Try.prog 8 #[.pointer (some ⟨P, 0, none⟩), .int .u64 (v : Int)] w fun e w' => e = .returned (.tuple #[]) ∧ PB w0 w' P mb (pinN L v) ∧ Turn2 w w' P mb := by
  refine (piPin_any v h.pn hv hl).mono ?_
  rintro e w' ⟨rfl, h1, h2⟩
  exact ⟨rfl, h.turn h1 h2, h2⟩
theorem unpinS (v : Nat) (h : PB w0 w P mb L) (hv : v < 2 ^ 64) (hl : L.length ≤ 1000) : Calls Try.prog 11 #[.pointer (some ⟨P, 0, none⟩), .int .u64 (v : Int)] w fun e w' => e = .returned (.bool (decide (v ∈ L))) ∧ PB w0 w' P mb (L.erase v) ∧ Turn2 w w' P mb := by
  refine (piUnpin_any v h.pn hv hl).mono ?_
  rintro e w' ⟨rfl, h1, h2⟩
  exact ⟨rfl, h.turn h1 h2, h2⟩
end
theorem lit_u64' (w : World) (l : List Nat) (o : Obj) (ho : o = .cells (l.map u64V).toArray 27) : Reads (w.alloc o) (some ⟨w.heap.size, 0, none⟩) (l.map u64V) := by
  subst ho
  refine fun hx => ⟨w.heap.size, 0, rfl, fun j u hj => ?_⟩
  have := (Has.made w 27 (l.map u64V).toArray).cell (0 + j)
  exact this.trans (by simpa using hj)
set_option maxRecDepth 100000 in
set_option maxHeartbeats 4000000 in
theorem awake12_any (w : World) : Calls Try.prog 6 #[] w fun e w' => e = .returned (.bool true) ∧ Below w.heap.size w w' := by
  have HNEW := Lib.hid (newS (Below.refl w.heap.size w))
  have HP1 : Hid (∀ v P mb, PB w v P mb [] → Calls Try.prog 8 #[.pointer (some ⟨P, 0, none⟩), .int .u64 4] v fun e w' => e = .returned (.tuple #[]) ∧ PB w w' P mb [4] ∧ Turn2 v w' P mb) := Lib.hid (fun _ _ _ h => pinS 4 h (by decide) (by decide))
  have HP2 : Hid (∀ v P mb, PB w v P mb [4] → Calls Try.prog 8 #[.pointer (some ⟨P, 0, none⟩), .int .u64 2] v fun e w' => e = .returned (.tuple #[]) ∧ PB w w' P mb [2, 4] ∧ Turn2 v w' P mb) := Lib.hid (fun _ _ _ h => pinS 2 h (by decide) (by decide))
  have HP3 : Hid (∀ v P mb, PB w v P mb [2, 4] → Calls Try.prog 8 #[.pointer (some ⟨P, 0, none⟩), .int .u64 4] v fun e w' => e = .returned (.tuple #[]) ∧ PB w w' P mb [2, 4, 4] ∧ Turn2 v w' P mb) := Lib.hid (fun _ _ _ h => pinS 4 h (by decide) (by decide))
  have HU1 : Hid (∀ v P mb, PB w v P mb [2, 4, 4] → Calls Try.prog 11 #[.pointer (some ⟨P, 0, none⟩), .int .u64 2] v fun e w' => e = .returned (.bool true) ∧ PB w w' P mb [4, 4] ∧ Turn2 v w' P mb) := Lib.hid (fun _ _ _ h => unpinS 2 h (by decide) (by decide))
  have HU2 : Hid (∀ v P mb, PB w v P mb [4, 4] → Calls Try.prog 11 #[.pointer (some ⟨P, 0, none⟩), .int .u64 2] v fun e w' => e = .returned (.bool false) ∧ PB w w' P mb [4, 4] ∧ Turn2 v w' P mb) := Lib.hid (fun _ _ _ h => unpinS 2 h (by decide) (by decide))
  have HO : Hid (∀ v P mb, PB w v P mb [4, 4] → Calls Try.prog 12 #[.pointer (some ⟨P, 0, none⟩)] v fun e w' => e = .returned (.tuple #[.int .u64 4, .bool true]) ∧ Below v.heap.size v w') := Lib.hid (fun _ _ _ h => piOldest_any h.pn (by decide))
  have HH : Hid (∀ v P mb, PB w v P mb [4, 4] → Calls Try.prog 14 #[.pointer (some ⟨P, 0, none⟩), .int .u64 4] v fun e w' => e = .returned (.int .i64 2) ∧ Below v.heap.size v w') := Lib.hid (fun _ _ _ h => piHeld_any 4 h.pn (by decide) (by decide))
  have HA : Hid (∀ v P mb, PB w v P mb [4, 4] → Calls Try.prog 17 #[.pointer (some ⟨P, 0, none⟩)] v (RowEnd [4] v)) := Lib.hid (fun _ _ _ h => piAll_any h.pn (by decide))
  unfold RowEnd at HA
  have HS : Hid (∀ v A c (h : RowU v A 1 c [4]) v2 (hv : v.alloc (.cells #[.int .u64 4] 27) = v2), Calls Try.prog 16 #[.slice A 1 c, .slice (some ⟨v.heap.size, 0, none⟩) 1 1] v2 fun e w' => e = .returned (.bool true) ∧ Below v2.heap.size v2 w') :=
    Lib.hid (fun v A c h v2 hv => r3Same_any [4] [4] A (some ⟨v.heap.size, 0, none⟩) 1 c 1 1 v2 rfl rfl (h.below (hv ▸ (Below.refl _ v).alloc (Nat.le_refl _) _)).arg.reads (hv ▸ lit_u64' v [4] _ rfl) (by decide))
  go_enter Try.func6, Try.ntmps6
  go_wp2_with (first
    | (go_at_call 7; (with_reducible refine HNEW.out.mono ?_); rintro e w1 ⟨P, mb, rfl, h1, _, _, _⟩; have X1 := Lib.hid h1; clear h1)
    | (go_at_call 8; (with_reducible refine (HP1.out _ _ _ X1.out).mono ?_); rintro e w2 ⟨rfl, h1, _⟩; have X2 := Lib.hid h1; clear h1)
    | (go_at_call 8; (with_reducible refine (HP2.out _ _ _ X2.out).mono ?_); rintro e w3 ⟨rfl, h1, _⟩; have X3 := Lib.hid h1; clear h1)
    | (go_at_call 8; (with_reducible refine (HP3.out _ _ _ X3.out).mono ?_); rintro e w4 ⟨rfl, h1, _⟩; have X4 := Lib.hid h1; clear h1)
    | (go_at_call 11; (with_reducible refine (HU1.out _ _ _ X4.out).mono ?_); rintro e w5 ⟨rfl, h1, _⟩; have X5 := Lib.hid h1; clear h1)
    | (go_at_call 12; (with_reducible refine (HO.out _ _ _ X5.out).mono ?_); rintro e w6 ⟨rfl, h1⟩; have X6 := Lib.hid (X5.out.below h1); clear h1)
    | (go_at_call 14; (with_reducible refine (HH.out _ _ _ X6.out).mono ?_); rintro e w7 ⟨rfl, h1⟩; have X7 := Lib.hid (X6.out.below h1); clear h1)
    | (go_at_call 11; (with_reducible refine (HU2.out _ _ _ X7.out).mono ?_); rintro e w8 ⟨rfl, h1, _⟩; have X8 := Lib.hid h1; clear h1)
    | (go_at_call 17; (with_reducible refine (HA.out _ _ _ X8.out).mono ?_); rintro e w9 ⟨A9, n9, c9, rfl, h1, h2⟩; have hn : n9 = 1 := h1.arg.len; subst hn; have R9 := Lib.hid h1; have X9 := Lib.hid (X8.out.below h2); clear h1 h2; obtain ⟨V9, hV9⟩ : ∃ V9, w9.alloc (.cells #[.int .u64 4] 27) = V9 := ⟨_, rfl⟩; have HV9 := Lib.hid hV9; clear hV9)
    | (go_at_call 16; (try rw [HV9.out]); (with_reducible refine (HS.out _ _ _ R9.out _ HV9.out).mono ?_); rintro e w10 ⟨rfl, b10⟩; have B10 := Lib.hid (below_step (below_step X9.out.bel (HV9.out ▸ (Below.refl _ w9).alloc (Nat.le_refl _) _)) b10); clear b10))
  go_ret
  exact ⟨rfl, B10.out⟩
end Go.Proofs.Ytlfmmmgdilencaa
end
