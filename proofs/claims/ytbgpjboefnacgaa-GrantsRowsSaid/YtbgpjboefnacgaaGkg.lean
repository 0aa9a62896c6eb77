/- Package grants: label, Get: contracts, no statement. -/
import Derived.Test.YtbgpjboefnacgaaGkf
namespace Go.Proofs.Ytbgpjboefnacgaa
open Go.RowKit
set_option linter.unusedVariables false

/-- What Get answers: its grants lie in a row of their own. -/
def GetOwn (l : List G) (er : Int) (w : World) (e : Ending) (w' : World) : Prop := ∃ A n c, e = .returned (.tuple #[.slice A n c, .int .i64 er]) ∧ ArgG w' A n c l ∧ w'.ownsRow w.heap.size 29 3 (.slice A n c) n (cellsG l) ∧ Below w.heap.size w w'
def LabEnd (base P : Nat) (w : World) (x : Nat) (l : List UInt8) (er : Int) (e : Ending) (w' : World) : Prop := e = .returned (.int .i64 (x : Int)) ∧ Tk w' base P l er ∧ w.grownBy w' (some P)
theorem label_any (base P : Nat) (l : List UInt8) (er : Int) (w : World) (h : Tk w base P l er) :
    Calls Try.prog 40 #[.pointer (some ⟨P, 0, none⟩)] w (LabEnd base P w (stN l er 1).1 (stN l er 1).2.1 (stN l er 1).2.2) := by
  have HN := Lib.hid (tNum_any base P l er 1 w h)
  have b1 := stN_one l er
  clear h
  generalize stN l er 1 = s1 at HN b1 ⊢
  obtain ⟨x, l1, e1⟩ := s1
  simp only at HN b1 ⊢
  have hw : IntKind.i64.wrap (x : Int) = (x : Int) := by rw [IntKind.wrap_i64]; omega
  go_enter Try.func40, Try.ntmps40
  go_wp2_with (go_at_call 39; (with_reducible refine HN.out.mono ?_); rintro e w1 ⟨rfl, h1, h2⟩; have T1 := Lib.hid h1; have G1 := Lib.hid h2; clear h1 h2)
  go_ret
  exact ⟨rfl, T1.out, G1.out⟩

/-! A row of grants, made and filled. -/
theorem cellsG_zero (n : Nat) : cellsG (List.replicate n g0) = List.replicate (n * 3) (.int .i64 0) := by
  induction n with
  | zero => rfl
  | succ n ih =>
    rw [List.replicate_succ]
    have e : cellsG (g0 :: List.replicate n g0) = gC g0 ++ cellsG (List.replicate n g0) := by simp [cellsG]
    rw [e, ih, show (n + 1) * 3 = n * 3 + 1 + 1 + 1 by omega, List.replicate_succ, List.replicate_succ, List.replicate_succ]
    rfl
theorem made_G (n : Nat) : madeCells #[.int .i64 0, .int .i64 0, .int .i64 0] (n * 3) = (cellsG (List.replicate n g0)).toArray := by
  rw [cellsG_zero]
  apply Array.ext
  · simp [madeCells]
  · intro i h1 h2
    simp only [madeCells, Array.getElem_map, Array.getElem_range, List.getElem_toArray, List.getElem_replicate]
    have : i % 3 = 0 ∨ i % 3 = 1 ∨ i % 3 = 2 := by omega
    rcases this with h | h | h <;> simp [h]
theorem make_grants (n : Nat) (hn : n ≤ 1000000) (w : World) : (Instr.makeSlice 23 (.int .u64 n) (.int .u64 n)).run Try.prog w = .ok (.slice (some ⟨w.heap.size, 0, none⟩) n n) (w.alloc (.cells (cellsG (List.replicate n g0)).toArray 29)) := by
  obtain ⟨i0, hi, hz0, hz1, hz2⟩ := info_parts Ginfo
  have := run_make (P := Try.prog) (w := w) 23 29 i0 (.agg #[.int .i64 0, .int .i64 0, .int .i64 0]) Try.underlying23 hi hz0 .u64 .u64 n n (by omega) (by omega) (by rw [hz2]; omega) (by omega)
  simp only [Int.toNat_natCast, hz1] at this
  rw [← made_G]
  exact this
def gotG (x : Nat) (l : List G) : List G := l ++ List.replicate (x - l.length) g0
theorem gotG_len (x : Nat) (l : List G) (h : l.length ≤ x) : (gotG x l).length = x := by simp [gotG]; omega
theorem gotG_more (x : Nat) (l : List G) (y : G) (h : l.length < x) : gotG x (l ++ [y]) = (gotG x l).set l.length y := by
  unfold gotG
  rw [List.set_append_right _ _ (Nat.le_refl _), Nat.sub_self]
  obtain ⟨m, hm⟩ : ∃ m, x - l.length = m + 1 := ⟨x - l.length - 1, by omega⟩
  have hm2 : x - (l ++ [y]).length = m := by simp; omega
  rw [hm, hm2, List.replicate_succ, List.set_cons_zero, List.append_assoc]
  rfl
theorem gotG_all (x : Nat) (l : List G) (h : l.length = x) : gotG x l = l := by simp [gotG, h]
theorem cellsG_set (o : List G) (k : Nat) (g : G) (hk : k < o.length) : cellsG (o.set k g) = (((cellsG o).set (k * 3) (.int .i64 g.a)).set (k * 3 + 1) (.int .i64 g.f)).set (k * 3 + 2) (.int .i64 g.t) := by
  induction o generalizing k with
  | nil => simp at hk
  | cons x o ih =>
    have e : ∀ (y : G) (m : List G), cellsG (y :: m) = .int .i64 y.a :: .int .i64 y.f :: .int .i64 y.t :: cellsG m := fun y m => by simp [cellsG, gC]
    cases k with
    | zero => rw [List.set_cons_zero, e, e]; rfl
    | succ k =>
      rw [List.set_cons_succ, e, e, ih k (by simpa using hk), show (k + 1) * 3 = k * 3 + 1 + 1 + 1 by omega]
      simp only [List.set_cons_succ]
theorem storeG {w : World} {p : Nat} {o : List G} {k : Nat} {a f t : Int} (h : Has w p 29 (cellsG o).toArray) (hk : k < o.length) :
    Has (((w.setCell ⟨p, k * 3, none⟩ (.int .i64 a)).setCell ⟨p, k * 3 + 1, none⟩ (.int .i64 f)).setCell ⟨p, k * 3 + 2, none⟩ (.int .i64 t)) p 29 (cellsG (o.set k ⟨a, f, t⟩)).toArray := by
  have := ((h.store (k * 3) (.int .i64 a)).store (k * 3 + 1) (.int .i64 f)).store (k * 3 + 2) (.int .i64 t)
  rw [cellsG_set o k _ hk]
  simpa using this
theorem cellG {w : World} {p : Nat} {o : List G} {k : Nat} (h : Has w p 29 (cellsG o).toArray) (hk : k < o.length) :
    w.cell? ⟨p, k * 3, none⟩ = some (.int .i64 o[k].a) ∧ w.cell? ⟨p, k * 3 + 1, none⟩ = some (.int .i64 o[k].f) ∧ w.cell? ⟨p, k * 3 + 2, none⟩ = some (.int .i64 o[k].t) := by
  obtain ⟨h1, h2, h3⟩ := cellsG_at o k hk
  rw [Nat.mul_comm 3 k] at h1 h2 h3
  rw [h.cell, h.cell, h.cell]
  exact ⟨by simpa using h1, by simpa using h2, by simpa using h3⟩
theorem ownG_has {w : World} {p B n : Nat} {l : List G} (h : Has w p 29 (cellsG l).toArray) (hn : n = l.length) (hB : B ≤ p) (hm : n ≤ 1000) : w.ownsRow B 29 3 (.slice (some ⟨p, 0, none⟩) n n) n (cellsG l) :=
  ⟨by rw [cellsG_len]; omega, .inr ⟨p, n, _, rfl, hB, h, Nat.le_refl _, by unfold maxLen; omega, by simp [cellsG_len]; omega, by rw [List.toList_toArray]; exact List.take_of_length_le (by rw [cellsG_len]; omega)⟩⟩
theorem ownG_nil (w : World) (B : Nat) : w.ownsRow B 29 3 (.slice none 0 0) 0 (cellsG []) := World.ownsRow_nil _ _ _ _

set_option maxRecDepth 100000 in
set_option maxHeartbeats 2000000 in
theorem gGet_any (l : List UInt8) (A : Option Addr) (n c : Nat) (w : World) (ht : Base4 w) (hn : n = l.length) (hc : n ≤ c) (hl : l.length ≤ 100000) (h : Reads w A (l.map byteV)) :
    Calls Try.prog 20 #[.slice A n c] w (GetOwn (getG4 l).1 (getG4 l).2 w) := by
  subst hn
  have HK := Lib.hid (Take_any A c l w (by omega) h)
  clear h hc ht
  have hx1 := stN_one l 0
  unfold getG4
  have HN := Lib.hid (fun base P w1 (h : Tk w1 base P l 0) => tNum_any base P l 0 1 w1 h)
  obtain ⟨x, l1, e1, hst⟩ : ∃ x l1 e1, stN l 0 1 = (x, l1, e1) := ⟨_, _, _, rfl⟩
  rw [hst] at hx1 HN ⊢
  simp only at hx1 HN ⊢
  clear hst
  obtain ⟨G4, hG⟩ : ∃ G4 : List G × Int, G4 = (if (takeG x l1 e1).2.2 ≠ 0 then ([], (takeG x l1 e1).2.2) else if 64 < x ∨ (takeG x l1 e1).2.1 ≠ [] then ([], 11) else ((takeG x l1 e1).1, 0)) := ⟨_, rfl⟩
  have HG := Lib.hid hG
  rw [← hG]
  clear hG
  have hmk := make_grants x (by omega)
  go_enter Try.func20, Try.ntmps20
  go_wp2_with (first
    | (go_at_call 38; refine HK.out.mono ?_; rintro e w1 ⟨P, rfl, h1, h2⟩; have T1 := Lib.hid h1; have B1 := Lib.hid h2; clear h1 h2)
    | (go_at_call 39; refine (HN.out _ _ _ T1.out).mono ?_; rintro e w2 ⟨rfl, h3, h4⟩; have T2 := Lib.hid h3; have B2 := Lib.hid (B1.out.trans (below_only h4 (tk_base h3) B1.out.size)); clear h3 h4))
  go_loopw [15] (fun i wr => ∃ k : Nat, k ≤ x ∧ i = .int .i64 k ∧ Has wr w2.heap.size 29 (cellsG (gotG x (takeG k l1 e1).1)).toArray ∧ Tk wr w.heap.size P (takeG k l1 e1).2.1 (takeG k l1 e1).2.2 ∧ Below w.heap.size w wr) (fun i _ => x - (intOf i).toNat)
  case atStart =>
    refine ⟨0, Nat.zero_le _, rfl, ?_, T2.out.below ((Below.refl _ _).alloc (Nat.le_refl _) _), B2.out.alloc B2.out.size _⟩
    have e : gotG x (takeG 0 l1 e1).1 = List.replicate x g0 := by simp [gotG, takeG]
    rw [e]
    exact Has.made _ _ _
  case round =>
    obtain ⟨k, hk, rfl, hH, hT, hB⟩ := hrel
    have HH := Lib.hid hH
    have HTk := Lib.hid hT
    have HB := Lib.hid hB
    clear hH hT hB
    by_cases hkx : k < x
    · have HU : Hid (takeG (k + 1) l1 e1 = ((takeG k l1 e1).1 ++ [⟨(stN (takeG k l1 e1).2.1 (takeG k l1 e1).2.2 1).1, (stN (stN (takeG k l1 e1).2.1 (takeG k l1 e1).2.2 1).2.1 (stN (takeG k l1 e1).2.1 (takeG k l1 e1).2.2 1).2.2 1).1, (stN (stN (stN (takeG k l1 e1).2.1 (takeG k l1 e1).2.2 1).2.1 (stN (takeG k l1 e1).2.1 (takeG k l1 e1).2.2 1).2.2 1).2.1 (stN (stN (takeG k l1 e1).2.1 (takeG k l1 e1).2.2 1).2.1 (stN (takeG k l1 e1).2.1 (takeG k l1 e1).2.2 1).2.2 1).2.2 1).1⟩],
        (stN (stN (stN (takeG k l1 e1).2.1 (takeG k l1 e1).2.2 1).2.1 (stN (takeG k l1 e1).2.1 (takeG k l1 e1).2.2 1).2.2 1).2.1 (stN (stN (takeG k l1 e1).2.1 (takeG k l1 e1).2.2 1).2.1 (stN (takeG k l1 e1).2.1 (takeG k l1 e1).2.2 1).2.2 1).2.2 1).2.1,
        (stN (stN (stN (takeG k l1 e1).2.1 (takeG k l1 e1).2.2 1).2.1 (stN (takeG k l1 e1).2.1 (takeG k l1 e1).2.2 1).2.2 1).2.1 (stN (stN (takeG k l1 e1).2.1 (takeG k l1 e1).2.2 1).2.1 (stN (takeG k l1 e1).2.1 (takeG k l1 e1).2.2 1).2.2 1).2.2 1).2.2)) := Lib.hid rfl
      have HL := Lib.hid (takeG_len k l1 e1)
      generalize takeG k l1 e1 = T at HH HTk HU HL
      obtain ⟨lg, lr, er⟩ := T
      simp only at HH HTk HU HL
      have H1 := Lib.hid (fun w1 (h : Tk w1 w.heap.size P lr er) => label_any w.heap.size P lr er w1 h)
      generalize stN lr er 1 = s1 at H1 HU
      obtain ⟨x1, r1, y1⟩ := s1
      simp only at H1 HU
      have H2 := Lib.hid (fun w1 (h : Tk w1 w.heap.size P r1 y1) => label_any w.heap.size P r1 y1 w1 h)
      generalize stN r1 y1 1 = s2 at H2 HU
      obtain ⟨x2, r2, y2⟩ := s2
      simp only at H2 HU
      have H3 := Lib.hid (fun w1 (h : Tk w1 w.heap.size P r2 y2) => label_any w.heap.size P r2 y2 w1 h)
      generalize stN r2 y2 1 = s3 at H3 HU
      obtain ⟨x3, r3, y3⟩ := s3
      simp only at H3 HU
      have HGM := Lib.hid (gotG_more x lg ⟨x1, x2, x3⟩ (by rw [HL.out]; exact hkx))
      rw [HL.out] at HGM
      have hgl : k < (gotG x lg).length := by rw [gotG_len _ _ (by rw [HL.out]; omega)]; exact hkx
      generalize gotG x lg = ol at HH HGM hgl
      have i0 : (0 : Int) ≤ (k : Int) := by omega
      have i1 : (k : Int) < (x : Int) := by omega
      go_wp2_with (first
        | (go_at_call 40; (with_reducible refine (H1.out _ HTk.out).mono ?_); rintro e w3 ⟨rfl, h3, h4⟩; have T3 := Lib.hid h3; have A3 := Lib.hid (HH.out.grown h4 (fun e => tk_apart_of HTk.out HH.out (by decide) (by injection e))); have B3 := Lib.hid (HB.out.trans (below_only h4 (tk_base h3) HB.out.size)); clear h3 h4)
        | (go_at_call 40; (with_reducible refine (H2.out _ T3.out).mono ?_); rintro e w4 ⟨rfl, h3, h4⟩; have T4 := Lib.hid h3; have A4 := Lib.hid (A3.out.grown h4 (fun e => tk_apart_of T3.out A3.out (by decide) (by injection e))); have B4 := Lib.hid (B3.out.trans (below_only h4 (tk_base h3) B3.out.size)); clear h3 h4)
        | (go_at_call 40; (with_reducible refine (H3.out _ T4.out).mono ?_); rintro e w5 ⟨rfl, h3, h4⟩; have T5 := Lib.hid h3; have A5 := Lib.hid (A4.out.grown h4 (fun e => tk_apart_of T4.out A4.out (by decide) (by injection e))); have B5 := Lib.hid (B4.out.trans (below_only h4 (tk_base h3) B4.out.size)); obtain ⟨c1, c2, c3⟩ := cellG A5.out hgl; have f1 := A5.out.free (k * 3); have f2 := A5.out.free (k * 3 + 1); have f3 := A5.out.free (k * 3 + 2); clear h3 h4))
      go_roundw
      case rel =>
        refine ⟨k + 1, by omega, by go_num, ?_, ?_, ((B5.out.setCell (p := ⟨w2.heap.size, k * 3, none⟩) B2.out.size _).setCell (p := ⟨w2.heap.size, k * 3 + 1, none⟩) B2.out.size _).setCell (p := ⟨w2.heap.size, k * 3 + 2, none⟩) B2.out.size _⟩
        · rw [HU.out, HGM.out]
          exact storeG A5.out hgl
        · rw [HU.out]
          exact T5.out.beside A5.out (by decide) (by decide) (only_store (only_store (only_store (only_refl w5 w2.heap.size) (k * 3) _) (k * 3 + 1) _) (k * 3 + 2) _)
      case measure => simp [intOf]; omega
    · obtain rfl : k = x := by omega
      have hlen := takeG_len k l1 e1
      have hH := HH.out
      rw [gotG_all k _ hlen] at hH
      have HO := Lib.hid (ownG_has (n := k) hH hlen.symm B2.out.size (by omega))
      have HTD := Lib.hid (tDone_any HTk.out)
      clear hH HH hlen
      obtain ⟨w4, hw4⟩ : ∃ w4 : World, w4 = wr := ⟨_, rfl⟩
      subst hw4
      obtain ⟨A', c', hv, ha⟩ := argG_own HO.out (takeG_len k l1 e1).symm
      injection hv with hv1 hv2 hv3
      subst hv1 hv3
      have HQ := Lib.hid ha
      clear ha HTk
      generalize takeG k l1 e1 = S at HO HQ HTD HG
      obtain ⟨ul, rl, er⟩ := S
      by_cases hd : dn rl er = 0
      · have hcond : er = 0 ∧ rl = [] := by
          unfold dn at hd
          by_cases h0 : er = 0
          · subst h0
            simp only [ne_eq, not_true, if_false] at hd
            rcases rl with _ | ⟨b, rl⟩
            · exact ⟨rfl, rfl⟩
            · simp at hd
          · simp [h0] at hd
        obtain ⟨rfl, rfl⟩ := hcond
        rw [hd] at HTD
        by_cases h64 : 64 < k
        · have q1 : decide (64 < (k : Int)) = true := by simp; omega
          have HE : Hid (G4 = ([], 11)) := Lib.hid (by rw [HG.out]; simp [h64])
          clear hd h64
          go_wp2_with (first
            | (go_at_call 41; refine HTD.out.mono ?_; rintro e w' ⟨rfl, rfl⟩))
          go_ret2
          rw [HE.out]
          exact ⟨_, _, _, rfl, argG_nil _, ownG_nil _ _, HB.out⟩
        · have q1 : decide (64 < (k : Int)) = false := by simp; omega
          have HE : Hid (G4 = (ul, 0)) := Lib.hid (by rw [HG.out]; simp [h64])
          clear hd h64
          go_wp2_with (first
            | (go_at_call 41; refine HTD.out.mono ?_; rintro e w' ⟨rfl, rfl⟩))
          go_ret2
          rw [HE.out]
          exact ⟨_, _, _, rfl, HQ.out, HO.out, HB.out⟩
      · have HE : Hid (G4 = ([], dn rl er)) := Lib.hid (by
          rw [HG.out]
          unfold dn at hd ⊢
          by_cases h0 : er = 0
          · subst h0
            rcases rl with _ | ⟨b, rl⟩
            · simp at hd
            · simp
          · simp [h0])
        generalize dn rl er = d at hd HTD HE
        have hd2 : (d != 0) = true := by simpa using hd
        clear hd
        go_wp2_with (first
          | (go_at_call 41; refine HTD.out.mono ?_; rintro e w' ⟨rfl, rfl⟩))
        go_ret2
        rw [HE.out]
        exact ⟨_, _, _, rfl, argG_nil _, ownG_nil _ _, HB.out⟩

end Go.Proofs.Ytbgpjboefnacgaa
