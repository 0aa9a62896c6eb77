import Derived.Test.YtogcbmhcddcfkaaGreatDoorJ13
import Derived.Test.YtogcbmhcddcfkaaGreatDoorJPal
import Derived.Test.YtogcbmhcddcfkaaGreatDoorJLatc
/- Of a claim's texts, joined: Pap. No statement but in the last. -/
namespace Go.Proofs.YtogcbmhcddcfkaaGreatDoor
open Go.RowKit
set_option linter.unusedVariables false

theorem wrow_of {w : World} {b n c : Nat} {A : Option Addr} {l : List Wd} (h : w.ownsRow b 99 2 (.slice A n c) n (cellsW l)) (hl : 0 < l.length) : ∃ g, A = some ⟨g, 0, none⟩ ∧ (n = l.length → WR w g c l) := by
  rcases h.2 with ⟨e, hn⟩ | ⟨g, cap, cur, e, hb, hg, h1, h2, h3, h4⟩
  · have := h.1
    rw [cellsW_len, hn] at this
    omega
  · injection e with e1 e2 e3
    subst e1 e3
    refine ⟨g, rfl, fun hn => ?_⟩
    subst hn
    exact ⟨h.1, .inr ⟨g, c, cur, rfl, Nat.zero_le _, hg, h1, h2, h3, h4⟩⟩
theorem Reads.far {w : World} {A : Option Addr} {xs : List Value} {P i : Nat} (h : Reads w A xs) (hA : ∀ a, A = some a → P ≠ a.block) (v : Value) : Reads (w.setCell ⟨P, i, none⟩ v) A xs := fun hx => by
  obtain ⟨g, off, rfl, hc⟩ := h hx
  exact ⟨g, off, rfl, fun j u hj => by rw [World.cell?_setCell_far _ _ _ _ (hA _ rfl)]; exact hc j u hj⟩
structure Apart (s : Cs) (P : Nat) : Prop where
  n : ∀ a, s.nA = some a → P ≠ a.block
  u : ∀ a, s.uA = some a → P ≠ a.block
  q : ∀ a, s.qA = some a → P ≠ a.block
  g : ∀ a, s.gA = some a → P ≠ a.block
theorem ArgC.far {w : World} {s : Cs} {c : Cf} {P i : Nat} (h : ArgC w s c) (hA : Apart s P) (v : Value) : ArgC (w.setCell ⟨P, i, none⟩ v) s c :=
  ⟨⟨h.names.len, h.names.reads.far hA.n v, fun hn a ha => by simpa using h.names.old hn a ha, h.names.room, h.names.most⟩,
   ⟨h.up.len, h.up.reads.far hA.u v, fun hn a ha => by simpa using h.up.old hn a ha, h.up.room, h.up.most, h.up.big⟩,
   ⟨h.quotas.len, h.quotas.reads.far hA.q v, fun hn a ha => by simpa using h.quotas.old hn a ha, h.quotas.room, h.quotas.most⟩,
   ⟨h.grants.len, h.grants.reads.far hA.g v, fun hn a ha => by simpa using h.grants.old hn a ha, h.grants.room, h.grants.most⟩, h.strs⟩
theorem PB.slices {w : World} {base P : Nat} {c : Cf} (h : PB w base P c) (hb : ∀ x ∈ c.up, x < 2 ^ 64) (hs : ∀ x ∈ c.names, x.length ≤ 281474976710656) :
    ∃ s : Cs, PBx w base P (.slice s.nA s.nn s.nc) (.slice s.uA s.un s.uc) (.slice s.qA s.qn s.qc) (.slice s.gA s.gn s.gc) c ∧ ArgC w s c ∧ Apart s P ∧ ∀ Q, Q < base → Apart s Q := by
  obtain ⟨vn, vu, vq, vg, hx⟩ := h
  have hx' := hx
  obtain ⟨h1, h2, h3, h4, h5, h6⟩ := hx
  have key : ∀ {e : TypeId} {sz n : Nat} {v : Value} {xs : List Value} (h : w.ownsRow base e sz v n xs) (hne : e ≠ 53), ∃ A c, v = .slice A n c ∧ (n * sz = xs.length) ∧ Reads w A xs ∧ (0 < n → ∀ a, A = some a → a.block < w.heap.size) ∧ n ≤ c ∧ c ≤ maxLen ∧ (∀ a, A = some a → P ≠ a.block) ∧ ∀ Q, Q < base → ∀ a, A = some a → Q ≠ a.block := by
    intro e sz n v xs h hne
    rcases h.2 with ⟨rfl, rfl⟩ | ⟨g, cap, cur, rfl, hB, hg, k1, k2, _, hcur⟩
    · have hl := h.1
      refine ⟨none, 0, rfl, hl.symm, fun hx => ?_, fun h => absurd h (Nat.lt_irrefl 0), Nat.le_refl _, Nat.zero_le _, fun a ha => (by cases ha), fun Q _ a ha => (by cases ha)⟩
      rw [hl] at hx
      omega
    · refine ⟨_, cap, rfl, h.1.symm, fun _ => ⟨g, 0, rfl, fun j u hj => ?_⟩, fun _ a ha => by injection ha with ha; subst ha; exact (Array.getElem?_eq_some_iff.1 hg).1, k1, k2, fun a ha => ?_, fun Q hQ a ha => ?_⟩
      · rw [Nat.zero_add, Has.cell (w := w) (g := g) (t := e) (cs := cur) hg]
        rw [← hcur, List.getElem?_take] at hj
        split at hj
        · simpa using hj
        · cases hj
      · injection ha with ha
        subst ha
        exact (Has.apart (w := w) (g := g) (t := e) (cs := cur) hg h1 hne).symm
      · injection ha with ha
        subst ha
        show Q ≠ g
        omega
  obtain ⟨nA, nc, rfl, e1, r1, o1, p1, q1, a1, b1⟩ := key h3 (by decide)
  obtain ⟨uA, uc, rfl, e2, r2, o2, p2, q2, a2, b2⟩ := key h4 (by decide)
  obtain ⟨qA, qc, rfl, e3, r3, o3, p3, q3, a3, b3⟩ := key h5 (by decide)
  obtain ⟨gA, gc, rfl, e4, r4, o4, p4, q4, a4, b4⟩ := key h6 (by decide)
  exact ⟨⟨nA, _, nc, uA, _, uc, qA, _, qc, gA, _, gc⟩, hx', ⟨⟨rfl, r1, o1, p1, q1⟩, ⟨rfl, r2, o2, p2, q2, hb⟩, ⟨rfl, r3, o3, p3, q3⟩, ⟨rfl, r4, o4, p4, q4⟩, hs⟩, ⟨a1, a2, a3, a4⟩, fun Q hQ => ⟨b1 Q hQ, b2 Q hQ, b3 Q hQ, b4 Q hQ⟩⟩
def ParseEnd (r : Cf × Int × Nat × Nat) (w : World) (e : Ending) (w' : World) : Prop :=
  ∃ s : Cs, e = .returned (.tuple #[s.v, .int .i64 r.2.1, .int .i64 (r.2.2.1 : Int), .int .i64 (r.2.2.2 : Int)]) ∧ ArgC w' s r.1 ∧ Below w.heap.size w w'
theorem argC0 (w : World) : ArgC w ⟨none, 0, 0, none, 0, 0, none, 0, 0, none, 0, 0⟩ cf0 :=
  ⟨⟨rfl, Reads.empty, fun h => absurd h (Nat.lt_irrefl 0), Nat.le_refl _, Nat.zero_le _⟩, ⟨rfl, Reads.empty, fun h => absurd h (Nat.lt_irrefl 0), Nat.le_refl _, Nat.zero_le _, fun x hx => by cases hx⟩,
    ⟨rfl, Reads.empty, fun h => absurd h (Nat.lt_irrefl 0), Nat.le_refl _, Nat.zero_le _⟩, ⟨rfl, Reads.empty, fun h => absurd h (Nat.lt_irrefl 0), Nat.le_refl _, Nat.zero_le _⟩, fun x hx => by cases hx⟩
theorem PB0 (w : World) : PB (w.alloc (.cells #[.slice none 0 0, .slice none 0 0, .slice none 0 0, .slice none 0 0] 53)) w.heap.size w.heap.size cf0 :=
  ⟨_, _, _, _, Has.made _ _ _, Nat.le_refl _, World.ownsRow_nil _ _ _ _, World.ownsRow_nil _ _ _ _, World.ownsRow_nil _ _ _ _, World.ownsRow_nil _ _ _ _⟩
theorem parse_skip {x : List UInt8} {r : List (List UInt8)} {a : Nat} {c : Cf} (h : (wordsN x).1 = []) : parseL (x :: r) a c = parseL r (a + 1) c := by rw [parseL, if_pos h]
theorem parse_bad {x : List UInt8} {r : List (List UInt8)} {a : Nat} {c : Cf} (h : (wordsN x).1 ≠ []) (hk : 0 < (lineN c (wordsN x).1 (wordsN x).2).2) : parseL (x :: r) a c = ((lineN c (wordsN x).1 (wordsN x).2).1, some (a, (lineN c (wordsN x).1 (wordsN x).2).2)) := by rw [parseL, if_neg h, if_pos hk]
theorem parse_good {x : List UInt8} {r : List (List UInt8)} {a : Nat} {c : Cf} (h : (wordsN x).1 ≠ []) (hk : ¬ 0 < (lineN c (wordsN x).1 (wordsN x).2).2) : parseL (x :: r) a c = parseL r (a + 1) (lineN c (wordsN x).1 (wordsN x).2).1 := by rw [parseL, if_neg h, if_neg hk]
theorem parseN_bad {s : List UInt8} {c : Cf} {a k : Nat} (h : parseL (linesN s) 1 cf0 = (c, some (a, k))) : parseN s = (cf0, 13, a, k) := by unfold parseN; rw [h]
theorem parseN_end {s : List UInt8} {c : Cf} (h : parseL (linesN s) 1 cf0 = (c, none)) : parseN s = if checkC { c with up := closeN c.up } = true then ({ c with up := closeN c.up }, 0, 0, 0) else (cf0, 13, 0, 0) := by unfold parseN; rw [h]
theorem line_at {L : List UInt8} {fr i : Nat} (hf : fr ≤ i) (hi : i ≤ L.length) (hno : ∀ b ∈ (L.drop fr).take (i - fr), b ≠ 10) (h : i < L.length → L[i]? = some 10) :
    linesN (L.drop fr) = (L.drop fr).take (i - fr) :: (if i < L.length then linesN (L.drop (i + 1)) else []) := by
  by_cases hlt : i < L.length
  · have e : L.drop fr = (L.drop fr).take (i - fr) ++ 10 :: L.drop (i + 1) := by
      have h1 : L.drop fr = (L.drop fr).take (i - fr) ++ (L.drop fr).drop (i - fr) := (List.take_append_drop _ _).symm
      rw [List.drop_drop, show fr + (i - fr) = i by omega, List.drop_eq_getElem_cons hlt] at h1
      have h2 := h hlt
      rw [List.getElem?_eq_getElem hlt] at h2
      injection h2 with h2
      rw [h2] at h1
      exact h1
    rw [if_pos hlt]
    have := linesN_mid _ (L.drop (i + 1)) hno
    rw [← e] at this
    exact this
  · have e : (L.drop fr).take (i - fr) = L.drop fr := List.take_of_length_le (by rw [List.length_drop]; omega)
    rw [if_neg hlt, e]
    rw [e] at hno
    exact linesN_last _ hno
theorem no_more {L : List UInt8} {fr i : Nat} {b : UInt8} (hf : fr ≤ i) (hb : L[i]? = some b) (hb10 : b ≠ 10) (hno : ∀ b ∈ (L.drop fr).take (i - fr), b ≠ 10) : ∀ b ∈ (L.drop fr).take (i + 1 - fr), b ≠ 10 := by
  intro x hx
  rw [show i + 1 - fr = (i - fr) + 1 by omega, List.take_add_one] at hx
  rcases List.mem_append.1 hx with hx | hx
  · exact hno x hx
  · have e : (L.drop fr)[i - fr]? = some b := by rw [List.getElem?_drop, show fr + (i - fr) = i by omega]; exact hb
    rw [e] at hx
    simp at hx
    rw [hx]
    exact hb10
structure ParI (L : List UInt8) (b : Nat) (W : World) (i fr a : Nat) (c : Cf) (wr : World) : Prop where
  hi : i ≤ L.length + 1
  hf : fr ≤ i
  ha : a ≤ i + 1
  rest : (if i ≤ L.length then parseL (linesN (L.drop fr)) a c else parseL [] a c) = parseL (linesN L) 1 cf0
  no : i ≤ L.length → ∀ b ∈ (L.drop fr).take (i - fr), b ≠ 10
  ok : Okf c i
  names : ∀ x ∈ c.names, x.length ≤ L.length
  pb : PB wr b b c
  bel : Below b W wr
theorem ParI.line {L : List UInt8} {b i fr a : Nat} {W wr : World} {c : Cf} (h : ParI L b W i fr a c wr) (hi : i ≤ L.length) (h10 : i < L.length → L[i]? = some 10) :
    parseL ((L.drop fr).take (i - fr) :: (if i < L.length then linesN (L.drop (i + 1)) else [])) a c = parseL (linesN L) 1 cf0 := by
  have := h.rest
  rw [if_pos hi, line_at h.hf hi (h.no hi) h10] at this
  exact this
theorem ParI.next {L : List UInt8} {b i fr a : Nat} {W wr wr' : World} {c c' : Cf} (h : ParI L b W i fr a c wr) (hi : i ≤ L.length) (hr : parseL (if i < L.length then linesN (L.drop (i + 1)) else []) (a + 1) c' = parseL (linesN L) 1 cf0)
    (ok : Okf c' (i + 1)) (hn : ∀ x ∈ c'.names, x.length ≤ L.length) (pb : PB wr' b b c') (bel : Below b W wr') : ParI L b W (i + 1) (i + 1) (a + 1) c' wr' :=
  ⟨by omega, Nat.le_refl _, by have := h.ha; omega, by
    rw [← hr]
    by_cases hlt : i < L.length
    · rw [if_pos (by omega), if_pos hlt]
    · rw [if_neg (by omega), if_neg hlt], fun _ b hb => by simp at hb, ok, hn, pb, bel⟩
theorem okf_up {c : Cf} {m m' : Nat} (h : Okf c m) (hm : m ≤ m') : Okf c m' := ⟨h.ups, h.quo, h.most, h.big, Nat.le_trans h.few hm⟩

set_option maxRecDepth 100000 in
set_option maxHeartbeats 4000000 in
theorem r5Parse_any (L : List UInt8) (w : World) (hl : L.length ≤ 50000) :
    Calls Tryz.prog 11 #[.string ⟨L.toArray⟩] w (ParseEnd (parseN L) w) := by
  have hsz : (⟨L.toArray⟩ : ByteArray).size = L.length := size_list L
  have HSZ := Lib.hid hsz
  clear hsz
  have HBox0 := Has.made w 28 #[.slice none 0 0, .slice none 0 0, .slice none 0 0, .slice none 0 0]
  obtain ⟨W1, hW1⟩ : ∃ W1, w.alloc (.cells #[.slice none 0 0, .slice none 0 0, .slice none 0 0, .slice none 0 0] 28) = W1 := ⟨_, rfl⟩
  have hs1 : W1.heap.size = w.heap.size + 1 := by rw [← hW1]; simp
  have hb1 : Below w.heap.size w W1 := hW1 ▸ (Below.refl _ w).alloc (Nat.le_refl _) _
  rw [hW1] at HBox0
  have HPB0 := PB0 W1
  have HBox1 := HBox0.alloc (.cells #[.slice none 0 0, .slice none 0 0, .slice none 0 0, .slice none 0 0] 53)
  have hb2 := below_alloc' hb1 (.cells #[.slice none 0 0, .slice none 0 0, .slice none 0 0, .slice none 0 0] 53)
  obtain ⟨W, hW⟩ : ∃ W, W1.alloc (.cells #[.slice none 0 0, .slice none 0 0, .slice none 0 0, .slice none 0 0] 53) = W := ⟨_, rfl⟩
  rw [hW] at HPB0 HBox1 hb2
  have hsW : W.heap.size = w.heap.size + 2 := by rw [← hW]; simp [hs1]
  rw [hs1] at HPB0
  have HI0 : Hid (ParI L (w.heap.size + 1) W 0 0 1 cf0 W) := Lib.hid ⟨by omega, Nat.le_refl _, by omega, by simp, fun _ b hb => by simp at hb, okf0, fun x hx => by simp [cf0] at hx, HPB0, Below.refl _ _⟩
  have HBox := Lib.hid HBox1
  have HB2 := Lib.hid hb2
  have HSW := Lib.hid hsW
  have HSb : Hid (∀ wr, Below (w.heap.size + 1) W wr → w.heap.size + 1 ≤ wr.heap.size ∧ Has wr w.heap.size 28 #[.slice none 0 0, .slice none 0 0, .slice none 0 0, .slice none 0 0] ∧ Below w.heap.size w wr) := Lib.hid (fun wr hb => ⟨by have := hb.size; omega, HBox1.below hb (by omega), hb2.trans (hb.mono (by omega))⟩)
  have hWW : (w.alloc (.cells #[.slice none 0 0, .slice none 0 0, .slice none 0 0, .slice none 0 0] 28)).alloc (.cells #[.slice none 0 0, .slice none 0 0, .slice none 0 0, .slice none 0 0] 53) = W := by rw [hW1, hW]
  have HEnd := Lib.hid (fun c a k h => parseN_bad (s := L) (c := c) (a := a) (k := k) h)
  have HEnd2 := Lib.hid (fun c h => parseN_end (s := L) (c := c) h)
  clear HPB0 HBox0 HBox1 hb1 hb2 hsW hs1 hW hW1
  generalize parseN L = PN at HEnd HEnd2 ⊢
  go_enter Tryz.func11, Tryz.ntmps11
  go_wp2
  try rw [hWW]
  clear hWW
  go_loopw [7, 8, 9] (fun vf va i wr => ∃ (j fr a : Nat) (c : Cf), i = .int .i64 j ∧ vf = .int .i64 fr ∧ va = .int .i64 a ∧ ParI L (w.heap.size + 1) W j fr a c wr) (fun _ _ i _ => L.length + 1 - (intOf i).toNat)
  case atStart => exact ⟨0, 0, 1, cf0, rfl, rfl, rfl, HI0.out⟩
  case round =>
    obtain ⟨i, fr, a, c, rfl, rfl, rfl, hI⟩ := hrel
    have HI := Lib.hid hI
    have hi1 := hI.hi
    have hf1 := hI.hf
    have ha1 := hI.ha
    obtain ⟨hsz1, hbx1, hbw1⟩ := HSb.out wr hI.bel
    have HbxR := Lib.hid hbx1
    have HbwR := Lib.hid hbw1
    clear hI hbx1 hbw1
    have hz := HSZ.out
    by_cases hil : i ≤ L.length
    · have e0 : decide ((i : Int) ≤ (L.length : Int)) = true := by simp; omega
      by_cases hgo : i < L.length ∧ L[i]? ≠ some 10
      · obtain ⟨hlt, h10⟩ := hgo
        obtain ⟨b, hb⟩ : ∃ b, L[i]? = some b := ⟨_, List.getElem?_eq_getElem hlt⟩
        have hks : i < (⟨L.toArray⟩ : ByteArray).size := by rw [size_list]; exact hlt
        have hbb : ((⟨L.toArray⟩ : ByteArray)[i]'hks).toNat = b.toNat := by
          have : ((⟨L.toArray⟩ : ByteArray)[i]'hks) = b := by
            have e : L[i] = b := by rw [List.getElem?_eq_getElem hlt] at hb; injection hb
            exact e
          rw [this]
        have hb10 : b ≠ 10 := fun e => h10 (by rw [hb, e])
        have e1 : decide ((i : Int) < (L.length : Int)) = true := by simp; omega
        have e2 : ((b.toNat : Int) != 10) = true := by
          have : b.toNat ≠ 10 := fun e => hb10 (UInt8.toNat_inj.1 (by rw [e]; rfl))
          simp; omega
        have HN : Hid (ParI L (w.heap.size + 1) W (i + 1) fr a c wr) := Lib.hid ⟨by omega, by omega, by omega, by
          have := HI.out.rest
          rw [if_pos hil] at this
          rw [if_pos (by omega), this], fun _ => no_more hf1 hb hb10 (HI.out.no hil), okf_up HI.out.ok (by omega), HI.out.names, HI.out.pb, HI.out.bel⟩
        clear hb h10 hb10
        go_wp2
        go_roundw
        case rel => exact ⟨i + 1, fr, a, c, by go_num, rfl, rfl, HN.out⟩
        case measure => simp [intOf]; omega
      · have h10 : i < L.length → L[i]? = some 10 := fun h => Classical.byContradiction fun hn => hgo ⟨h, hn⟩
        have HLn := Lib.hid (HI.out.line hil h10)
        obtain ⟨X, hX⟩ : ∃ X, (L.drop fr).take (i - fr) = X := ⟨_, rfl⟩
        have hXl : X.length ≤ L.length := by rw [← hX, List.length_take, List.length_drop]; omega
        have he : (⟨L.toArray⟩ : ByteArray).extract fr i = ⟨X.toArray⟩ := by rw [extract_mid, hX]
        rw [hX] at HLn
        have HWd := Lib.hid (r5words_any X wr (by omega))
        have HWl := Lib.hid (wordsN_len X)
        have HSk := Lib.hid (fun h => parse_skip (x := X) (r := if i < L.length then linesN (L.drop (i + 1)) else []) (a := a) (c := c) h)
        have HBd := Lib.hid (fun h => parse_bad (x := X) (r := if i < L.length then linesN (L.drop (i + 1)) else []) (a := a) (c := c) h)
        have HGd := Lib.hid (fun h => parse_good (x := X) (r := if i < L.length then linesN (L.drop (i + 1)) else []) (a := a) (c := c) h)
        have HNx := Lib.hid (fun (wr' : World) (c' : Cf) (hr : parseL (if i < L.length then linesN (L.drop (i + 1)) else []) (a + 1) c' = parseL (linesN L) 1 cf0) h2 h3 h4 h5 => HI.out.next (wr' := wr') (c' := c') hil hr h2 h3 h4 h5)
        clear hX hgo
        generalize (if i < L.length then linesN (L.drop (i + 1)) else []) = R at HLn HSk HBd HGd HNx
        have s0 : (0 : Int) ≤ (fr : Int) := by omega
        have s1 : (fr : Int) ≤ (i : Int) := by omega
        have s2 : (i : Int) ≤ (L.length : Int) := by omega
        obtain ⟨ws, en, hwe⟩ : ∃ ws en, wordsN X = (ws, en) := ⟨_, _, rfl⟩
        rw [hwe] at HWd HWl HSk HBd HGd
        simp only at HWd HWl HSk HBd HGd
        clear hwe
        have hcase : (i < L.length ∧ ∃ hks : i < (⟨L.toArray⟩ : ByteArray).size, ((⟨L.toArray⟩ : ByteArray)[i]'hks).toNat = 10) ∨ ¬ i < L.length := by
          by_cases hlt : i < L.length
          · left
            refine ⟨hlt, by rw [size_list]; exact hlt, ?_⟩
            have h1 := h10 hlt
            rw [List.getElem?_eq_getElem hlt] at h1
            injection h1 with h1
            have e : ((⟨L.toArray⟩ : ByteArray)[i]'(by rw [size_list]; exact hlt)) = L[i] := rfl
            rw [e, h1]
            rfl
          · exact .inr hlt
        clear h10
        by_cases hws : ws = []
        · have HE := Lib.hid (HSk.out hws)
          subst hws
          rcases hcase with ⟨hlt, hks, hbb⟩ | hlt
          case' inl => have e1 : decide ((i : Int) < (L.length : Int)) = true := by simp; omega
          case' inr => have e1 : decide ((i : Int) < (L.length : Int)) = false := by simp; omega
          all_goals
            go_wp2_with (first
              | (go_at_call 26; (with_reducible refine HWd.out.mono ?_); rintro e w2 ⟨A2, n2, c2, rfl, h5, h6, h7⟩; have B2 := Lib.hid h6; obtain rfl : n2 = 0 := h5.len; clear h5 h6 h7))
            go_roundw
            case rel => exact ⟨i + 1, i + 1, a + 1, c, by go_num, by go_num, by go_num, HNx.out w2 c (by rw [← HE.out]; exact HLn.out) (okf_up HI.out.ok (by omega)) HI.out.names (HI.out.pb.below B2.out) (HI.out.bel.trans (B2.out.mono hsz1))⟩
            case measure => simp [intOf]; omega
        · have HLi := Lib.hid (fun g cap w2 (h1 : PB w2 (w.heap.size + 1) (w.heap.size + 1) c) (h2 : WR w2 g cap ws) h3 => r5line_any c i ws en (w.heap.size + 1) (w.heap.size + 1) g cap w2 h1 HI.out.ok (by omega) h2 hws h3 (fun x hx => by have := HWl.out x hx; omega))
          have HOk := Lib.hid (lineN_ok HI.out.ok ws en)
          have HNm := Lib.hid (lineN_names (c := c) (l := ws) (en := en) HI.out.names (fun x hx => Nat.le_trans (HWl.out x hx) hXl))
          have HBd2 := Lib.hid (HBd.out hws)
          have HGd2 := Lib.hid (HGd.out hws)
          have hwp : 0 < ws.length := List.length_pos_iff.2 hws
          clear HBd HGd HSk
          obtain ⟨c', k, hck⟩ : ∃ c' k, lineN c ws en = (c', k) := ⟨_, _, rfl⟩
          rw [hck] at HLi HOk HNm HBd2 HGd2
          simp only at HLi HOk HNm HBd2 HGd2
          clear hck
          by_cases hk0 : 0 < k
          · have HE := Lib.hid (HEnd.out _ _ _ (HLn.out.symm.trans (HBd2.out hk0)))
            have e3 : decide (0 < (k : Int)) = true := by simp; omega
            have e4 : decide (0 < (ws.length : Int)) = true := by simp; omega
            rw [HE.out]
            rcases hcase with ⟨hlt, hks, hbb⟩ | hlt
            case' inl => have e1 : decide ((i : Int) < (L.length : Int)) = true := by simp; omega
            case' inr => have e1 : decide ((i : Int) < (L.length : Int)) = false := by simp; omega
            all_goals
              go_wp2_with (first
                | (go_at_call 26; (with_reducible refine HWd.out.mono ?_); rintro e w2 ⟨A2, n2, c2, rfl, h5, h6, h7⟩; have B2 := Lib.hid h6; obtain rfl : n2 = ws.length := h5.len; obtain ⟨g2, rfl, hwr0⟩ := wrow_of h7 hwp; have hwr2 := hwr0 rfl; have HW2 := Lib.hid hwr2; have P2 := Lib.hid (HI.out.pb.below B2.out); clear h5 h6 h7 hwr2 hwr0)
                | (go_at_call 27; (with_reducible refine (HLi.out _ _ _ P2.out HW2.out (Nat.le_trans hsz1 B2.out.size)).mono ?_); rintro e w3 ⟨rfl, h5, h6⟩; have P3 := Lib.hid h5; have B3 := Lib.hid h6; obtain ⟨hsz3, hbx3, hbw3⟩ := HSb.out w3 ((HI.out.bel.trans (B2.out.mono hsz1)).trans B3.out); have HX3 := Lib.hid hbx3; have HB3 := Lib.hid hbw3; have d0 : w3.cell? ⟨w.heap.size, 0, none⟩ = some (.slice none 0 0) := (by rw [HX3.out.cell]; rfl); have d1 : w3.cell? ⟨w.heap.size, 1, none⟩ = some (.slice none 0 0) := (by rw [HX3.out.cell]; rfl); have d2 : w3.cell? ⟨w.heap.size, 2, none⟩ = some (.slice none 0 0) := (by rw [HX3.out.cell]; rfl); have d3 : w3.cell? ⟨w.heap.size, 3, none⟩ = some (.slice none 0 0) := (by rw [HX3.out.cell]; rfl); have f0 := HX3.out.free 0; have f1 := HX3.out.free 1; have f2 := HX3.out.free 2; have f3 := HX3.out.free 3; clear h5 h6 hsz3 hbx3 hbw3))
              have HxF : Hid (Has ((((w3.setCell ⟨w.heap.size, 0, none⟩ (.slice none 0 0)).setCell ⟨w.heap.size, 1, none⟩ (.slice none 0 0)).setCell ⟨w.heap.size, 2, none⟩ (.slice none 0 0)).setCell ⟨w.heap.size, 3, none⟩ (.slice none 0 0)) w.heap.size 28 #[.slice none 0 0, .slice none 0 0, .slice none 0 0, .slice none 0 0]) := Lib.hid (by
                have := (((HX3.out.store 0 (.slice none 0 0)).store 1 (.slice none 0 0)).store 2 (.slice none 0 0)).store 3 (.slice none 0 0)
                simpa using this)
              have HbF : Hid (Below w.heap.size w ((((w3.setCell ⟨w.heap.size, 0, none⟩ (.slice none 0 0)).setCell ⟨w.heap.size, 1, none⟩ (.slice none 0 0)).setCell ⟨w.heap.size, 2, none⟩ (.slice none 0 0)).setCell ⟨w.heap.size, 3, none⟩ (.slice none 0 0))) := Lib.hid ((((HB3.out.setCell (p := ⟨w.heap.size, 0, none⟩) (Nat.le_refl _) _).setCell (p := ⟨w.heap.size, 1, none⟩) (Nat.le_refl _) _).setCell (p := ⟨w.heap.size, 2, none⟩) (Nat.le_refl _) _).setCell (p := ⟨w.heap.size, 3, none⟩) (Nat.le_refl _) _)
              generalize ((((w3.setCell ⟨w.heap.size, 0, none⟩ (.slice none 0 0)).setCell ⟨w.heap.size, 1, none⟩ (.slice none 0 0)).setCell ⟨w.heap.size, 2, none⟩ (.slice none 0 0)).setCell ⟨w.heap.size, 3, none⟩ (.slice none 0 0)) = Wf at HxF HbF ⊢
              refine ⟨rfl, .tuple #[.agg #[.slice none 0 0, .slice none 0 0, .slice none 0 0, .slice none 0 0], .int .i64 13, .int .i64 (a : Int), .int .i64 (k : Int)], ?_, ?_⟩
              · have k0 : Wf.cell? ⟨w.heap.size, 0, none⟩ = some (.slice none 0 0) := by (rw [HxF.out.cell]; rfl)
                have k1 : Wf.cell? ⟨w.heap.size, 1, none⟩ = some (.slice none 0 0) := by (rw [HxF.out.cell]; rfl)
                have k2 : Wf.cell? ⟨w.heap.size, 2, none⟩ = some (.slice none 0 0) := by (rw [HxF.out.cell]; rfl)
                have k3 : Wf.cell? ⟨w.heap.size, 3, none⟩ = some (.slice none 0 0) := by (rw [HxF.out.cell]; rfl)
                simp [results, Tryz.f11, go_sem, k0, k1, k2, k3]
              · exact ⟨⟨none, 0, 0, none, 0, 0, none, 0, 0, none, 0, 0⟩, rfl, argC0 _, HbF.out⟩
          · have HE := Lib.hid (HGd2.out hk0)
            have e3 : decide (0 < (k : Int)) = false := by simp; omega
            have e4 : decide (0 < (ws.length : Int)) = true := by simp; omega
            rcases hcase with ⟨hlt, hks, hbb⟩ | hlt
            case' inl => have e1 : decide ((i : Int) < (L.length : Int)) = true := by simp; omega
            case' inr => have e1 : decide ((i : Int) < (L.length : Int)) = false := by simp; omega
            all_goals
              go_wp2_with (first
                | (go_at_call 26; (with_reducible refine HWd.out.mono ?_); rintro e w2 ⟨A2, n2, c2, rfl, h5, h6, h7⟩; have B2 := Lib.hid h6; obtain rfl : n2 = ws.length := h5.len; obtain ⟨g2, rfl, hwr0⟩ := wrow_of h7 hwp; have hwr2 := hwr0 rfl; have HW2 := Lib.hid hwr2; have P2 := Lib.hid (HI.out.pb.below B2.out); clear h5 h6 h7 hwr2 hwr0)
                | (go_at_call 27; (with_reducible refine (HLi.out _ _ _ P2.out HW2.out (Nat.le_trans hsz1 B2.out.size)).mono ?_); rintro e w3 ⟨rfl, h5, h6⟩; have P3 := Lib.hid h5; have B3 := Lib.hid h6; obtain ⟨hsz3, hbx3, hbw3⟩ := HSb.out w3 ((HI.out.bel.trans (B2.out.mono hsz1)).trans B3.out); have HX3 := Lib.hid hbx3; have HB3 := Lib.hid hbw3; have d0 : w3.cell? ⟨w.heap.size, 0, none⟩ = some (.slice none 0 0) := (by rw [HX3.out.cell]; rfl); have d1 : w3.cell? ⟨w.heap.size, 1, none⟩ = some (.slice none 0 0) := (by rw [HX3.out.cell]; rfl); have d2 : w3.cell? ⟨w.heap.size, 2, none⟩ = some (.slice none 0 0) := (by rw [HX3.out.cell]; rfl); have d3 : w3.cell? ⟨w.heap.size, 3, none⟩ = some (.slice none 0 0) := (by rw [HX3.out.cell]; rfl); have f0 := HX3.out.free 0; have f1 := HX3.out.free 1; have f2 := HX3.out.free 2; have f3 := HX3.out.free 3; clear h5 h6 hsz3 hbx3 hbw3))
              go_roundw
              case rel => exact ⟨i + 1, i + 1, a + 1, c', by go_num, by go_num, by go_num, HNx.out w3 c' (by rw [← HE.out]; exact HLn.out) HOk.out HNm.out P3.out ((HI.out.bel.trans (B2.out.mono hsz1)).trans B3.out)⟩
              case measure => simp [intOf]; omega
    · have hr := HI.out.rest
      rw [if_neg hil] at hr
      have HF := Lib.hid (HEnd2.out c hr.symm)
      have e0 : decide ((i : Int) ≤ (L.length : Int)) = false := by simp; omega
      obtain ⟨s, hsx, hsa, hsP, hsQ⟩ := HI.out.pb.slices HI.out.ok.big (fun x hx => by have := HI.out.names x hx; omega)
      have HPx := Lib.hid hsx
      have HAC := Lib.hid hsa
      have HAP := Lib.hid hsP
      have HAQ := Lib.hid (hsQ w.heap.size (by omega))
      have hun : s.un = c.up.length := hsa.up.len
      have hn64 := HI.out.ok.most
      have hups := HI.out.ok.ups
      have HCl := Lib.hid (r3Close_new c.up s.uA s.un s.uc wr hsa.up (by omega))
      have hnn : s.nn = c.names.length := hsa.names.len
      have HU64 : Hid (s.un ≤ 64 ∧ s.nn ≤ 64 ∧ s.un = c.up.length) := Lib.hid ⟨by omega, by omega, hun⟩
      clear hsx hsa hsP hsQ hr hun hnn
      obtain ⟨nA, nn, nc, uA, un, uc, qA, qn, qc, gA, gn, gc⟩ := s
      simp only at HPx HAC HAP HAQ HCl HU64
      have b1 : wr.cell? ⟨w.heap.size + 1, 1, none⟩ = some (.slice uA un uc) := by (rw [HPx.out.1.cell]; simp)
      obtain ⟨w5, hw5⟩ : ∃ w5 : World, w5 = wr := ⟨_, rfl⟩
      subst hw5
      have hPlt := HPx.out.1.lt
      have HArg := Lib.hid (fun (w6 : World) (g6 c6 : Nat) (h1 : ArgU w6 (some ⟨g6, 0, none⟩) un c6 (closeN c.up)) (h2 : w5.heap.size ≤ g6) (h3 : Below w5.heap.size w5 w6) => show ArgC (w6.setCell ⟨w.heap.size + 1, 1, none⟩ (.slice (some ⟨g6, 0, none⟩) un c6)) ⟨nA, nn, nc, some ⟨g6, 0, none⟩, un, c6, qA, qn, qc, gA, gn, gc⟩ { c with up := closeN c.up } from
        ArgC.far (s := ⟨nA, nn, nc, some ⟨g6, 0, none⟩, un, c6, qA, qn, qc, gA, gn, gc⟩) (c := { c with up := closeN c.up }) ⟨HAC.out.names.below h3, h1, HAC.out.quotas.below h3, HAC.out.grants.below h3, HAC.out.strs⟩ ⟨HAP.out.n, fun a ha => by injection ha with ha; subst ha; show w.heap.size + 1 ≠ g6; omega, HAP.out.q, HAP.out.g⟩ _)
      have HApQ := Lib.hid (fun (g6 c6 : Nat) (w6 : World) (h2 : w5.heap.size ≤ g6) (h3 : Below w5.heap.size w5 w6) => show Apart ⟨nA, nn, nc, some ⟨g6, 0, none⟩, un, c6, qA, qn, qc, gA, gn, gc⟩ w.heap.size from ⟨HAQ.out.n, fun a ha => by injection ha with ha; subst ha; show w.heap.size ≠ g6; omega, HAQ.out.q, HAQ.out.g⟩)
      have HCk := Lib.hid (fun (w6 : World) (g6 c6 : Nat) (h1 : ArgU w6 (some ⟨g6, 0, none⟩) un c6 (closeN c.up)) (h2 : w5.heap.size ≤ g6) (h3 : Below w5.heap.size w5 w6) => show Calls Tryz.prog 16 #[.agg #[.slice nA nn nc, .slice (some ⟨g6, 0, none⟩) un c6, .slice qA qn qc, .slice gA gn gc]] (w6.setCell ⟨w.heap.size + 1, 1, none⟩ (.slice (some ⟨g6, 0, none⟩) un c6)) (BoolEnd (checkC { c with up := closeN c.up }) (w6.setCell ⟨w.heap.size + 1, 1, none⟩ (.slice (some ⟨g6, 0, none⟩) un c6))) from
        r5Check_any { c with up := closeN c.up } ⟨nA, nn, nc, some ⟨g6, 0, none⟩, un, c6, qA, qn, qc, gA, gn, gc⟩ (w6.setCell ⟨w.heap.size + 1, 1, none⟩ (.slice (some ⟨g6, 0, none⟩) un c6)) (HArg.out w6 g6 c6 h1 h2 h3) (by have := HU64.out.2.1; show nn ≤ 1000000; omega) (by have := HU64.out.1; show un ≤ 1000000; omega))
      have HSb8 := Lib.hid (fun (w6 w8 : World) (c6 g6 : Nat) (h3 : Below w5.heap.size w5 w6) (h5 : Below (w6.setCell ⟨w.heap.size + 1, 1, none⟩ (.slice (some ⟨g6, 0, none⟩) un c6)).heap.size (w6.setCell ⟨w.heap.size + 1, 1, none⟩ (.slice (some ⟨g6, 0, none⟩) un c6)) w8) => show Has w8 w.heap.size 28 #[.slice none 0 0, .slice none 0 0, .slice none 0 0, .slice none 0 0] ∧ Below w.heap.size w w8 from by
        have k1 : Has w6 w.heap.size 28 #[.slice none 0 0, .slice none 0 0, .slice none 0 0, .slice none 0 0] := HbxR.out.below h3 HbxR.out.lt
        have k2 : Has (w6.setCell ⟨w.heap.size + 1, 1, none⟩ (.slice (some ⟨g6, 0, none⟩) un c6)) w.heap.size 28 #[.slice none 0 0, .slice none 0 0, .slice none 0 0, .slice none 0 0] := k1.away (p := ⟨w.heap.size + 1, 1, none⟩) (by show w.heap.size ≠ w.heap.size + 1; omega) _
        refine ⟨k2.below h5 k2.lt, ?_⟩
        exact (((HbwR.out.trans (h3.mono (by omega))).setCell (p := ⟨w.heap.size + 1, 1, none⟩) (by show w.heap.size ≤ w.heap.size + 1; omega) (.slice (some ⟨g6, 0, none⟩) un c6))).trans (h5.mono (by have := h3.size; simp; omega)))
      obtain ⟨v, hv⟩ : ∃ v, checkC { c with up := closeN c.up } = v := ⟨_, rfl⟩
      rw [hv] at HCk HF
      clear hPlt hv
      cases v
      · have HE : Hid (PN = (cf0, 13, 0, 0)) := Lib.hid (by rw [HF.out]; rfl)
        go_wp2_with (first
          | (go_at_call 28; (with_reducible refine HCl.out.mono ?_); rintro e w6 ⟨A6, c6, rfl, h5, h6, g6, rfl, h7⟩; have U6 := Lib.hid h5; have B6 := Lib.hid h6; have G6 := Lib.hid h7; have HP6 := Lib.hid (HPx.out.1.below h6 HPx.out.1.lt); have p1 : w6.cell? ⟨w.heap.size + 1, 1, none⟩ = some (.slice uA un uc) := (by rw [HP6.out.cell]; simp); have pf1 := HP6.out.free 1; have HP7 : Hid (Has (w6.setCell ⟨w.heap.size + 1, 1, none⟩ (.slice (some ⟨g6, 0, none⟩) un c6)) (w.heap.size + 1) 53 #[.slice nA nn nc, .slice (some ⟨g6, 0, none⟩) un c6, .slice qA qn qc, .slice gA gn gc]) := Lib.hid (by have := HP6.out.store 1 (.slice (some ⟨g6, 0, none⟩) un c6); simpa using this); have l0 : (w6.setCell ⟨w.heap.size + 1, 1, none⟩ (.slice (some ⟨g6, 0, none⟩) un c6)).cell? ⟨w.heap.size + 1, 0, none⟩ = some (.slice nA nn nc) := (by rw [HP7.out.cell]; rfl); have l1 : (w6.setCell ⟨w.heap.size + 1, 1, none⟩ (.slice (some ⟨g6, 0, none⟩) un c6)).cell? ⟨w.heap.size + 1, 1, none⟩ = some (.slice (some ⟨g6, 0, none⟩) un c6) := (by rw [HP7.out.cell]; rfl); have l2 : (w6.setCell ⟨w.heap.size + 1, 1, none⟩ (.slice (some ⟨g6, 0, none⟩) un c6)).cell? ⟨w.heap.size + 1, 2, none⟩ = some (.slice qA qn qc) := (by rw [HP7.out.cell]; rfl); have l3 : (w6.setCell ⟨w.heap.size + 1, 1, none⟩ (.slice (some ⟨g6, 0, none⟩) un c6)).cell? ⟨w.heap.size + 1, 3, none⟩ = some (.slice gA gn gc) := (by rw [HP7.out.cell]; rfl); clear h5 h6 h7)
          | (go_at_call 16; (with_reducible refine (HCk.out _ _ _ U6.out G6.out B6.out).mono ?_); rintro e w8 ⟨rfl, h5⟩; have HX8 := Lib.hid (HSb8.out w6 w8 c6 g6 B6.out h5).1; have HB8 := Lib.hid (HSb8.out w6 w8 c6 g6 B6.out h5).2; have HA8 := Lib.hid ((HArg.out w6 g6 c6 U6.out G6.out B6.out).below h5); have HAQ8 := Lib.hid (HApQ.out g6 c6 w6 G6.out B6.out); have HP8 := Lib.hid (HP7.out.below h5 HP7.out.lt); have m0 : w8.cell? ⟨w.heap.size + 1, 0, none⟩ = some (.slice nA nn nc) := (by rw [HP8.out.cell]; rfl); have m1 : w8.cell? ⟨w.heap.size + 1, 1, none⟩ = some (.slice (some ⟨g6, 0, none⟩) un c6) := (by rw [HP8.out.cell]; rfl); have m2 : w8.cell? ⟨w.heap.size + 1, 2, none⟩ = some (.slice qA qn qc) := (by rw [HP8.out.cell]; rfl); have m3 : w8.cell? ⟨w.heap.size + 1, 3, none⟩ = some (.slice gA gn gc) := (by rw [HP8.out.cell]; rfl); have d0 : w8.cell? ⟨w.heap.size, 0, none⟩ = some (.slice none 0 0) := (by rw [HX8.out.cell]; rfl); have d1 : w8.cell? ⟨w.heap.size, 1, none⟩ = some (.slice none 0 0) := (by rw [HX8.out.cell]; rfl); have d2 : w8.cell? ⟨w.heap.size, 2, none⟩ = some (.slice none 0 0) := (by rw [HX8.out.cell]; rfl); have d3 : w8.cell? ⟨w.heap.size, 3, none⟩ = some (.slice none 0 0) := (by rw [HX8.out.cell]; rfl); have f0 := HX8.out.free 0; have f1 := HX8.out.free 1; have f2 := HX8.out.free 2; have f3 := HX8.out.free 3; clear h5))
        have HxF : Hid (Has ((((w8.setCell ⟨w.heap.size, 0, none⟩ (.slice none 0 0)).setCell ⟨w.heap.size, 1, none⟩ (.slice none 0 0)).setCell ⟨w.heap.size, 2, none⟩ (.slice none 0 0)).setCell ⟨w.heap.size, 3, none⟩ (.slice none 0 0)) w.heap.size 28 #[.slice none 0 0, .slice none 0 0, .slice none 0 0, .slice none 0 0]) := Lib.hid (by
          have := (((HX8.out.store 0 (.slice none 0 0)).store 1 (.slice none 0 0)).store 2 (.slice none 0 0)).store 3 (.slice none 0 0)
          simpa using this)
        have HbF : Hid (Below w.heap.size w ((((w8.setCell ⟨w.heap.size, 0, none⟩ (.slice none 0 0)).setCell ⟨w.heap.size, 1, none⟩ (.slice none 0 0)).setCell ⟨w.heap.size, 2, none⟩ (.slice none 0 0)).setCell ⟨w.heap.size, 3, none⟩ (.slice none 0 0))) := Lib.hid ((((HB8.out.setCell (p := ⟨w.heap.size, 0, none⟩) (Nat.le_refl _) _).setCell (p := ⟨w.heap.size, 1, none⟩) (Nat.le_refl _) _).setCell (p := ⟨w.heap.size, 2, none⟩) (Nat.le_refl _) _).setCell (p := ⟨w.heap.size, 3, none⟩) (Nat.le_refl _) _)
        generalize ((((w8.setCell ⟨w.heap.size, 0, none⟩ (.slice none 0 0)).setCell ⟨w.heap.size, 1, none⟩ (.slice none 0 0)).setCell ⟨w.heap.size, 2, none⟩ (.slice none 0 0)).setCell ⟨w.heap.size, 3, none⟩ (.slice none 0 0)) = Wf at HxF HbF ⊢
        refine ⟨rfl, .tuple #[.agg #[.slice none 0 0, .slice none 0 0, .slice none 0 0, .slice none 0 0], .int .i64 13, .int .i64 0, .int .i64 0], ?_, ?_⟩
        · have k0 : Wf.cell? ⟨w.heap.size, 0, none⟩ = some (.slice none 0 0) := by (rw [HxF.out.cell]; rfl)
          have k1 : Wf.cell? ⟨w.heap.size, 1, none⟩ = some (.slice none 0 0) := by (rw [HxF.out.cell]; rfl)
          have k2 : Wf.cell? ⟨w.heap.size, 2, none⟩ = some (.slice none 0 0) := by (rw [HxF.out.cell]; rfl)
          have k3 : Wf.cell? ⟨w.heap.size, 3, none⟩ = some (.slice none 0 0) := by (rw [HxF.out.cell]; rfl)
          simp [results, Tryz.f11, go_sem, k0, k1, k2, k3]
        · rw [HE.out]
          exact ⟨⟨none, 0, 0, none, 0, 0, none, 0, 0, none, 0, 0⟩, rfl, argC0 _, HbF.out⟩
      · have HE : Hid (PN = ({ c with up := closeN c.up }, 0, 0, 0)) := Lib.hid (by rw [HF.out]; rfl)
        go_wp2_with (first
          | (go_at_call 28; (with_reducible refine HCl.out.mono ?_); rintro e w6 ⟨A6, c6, rfl, h5, h6, g6, rfl, h7⟩; have U6 := Lib.hid h5; have B6 := Lib.hid h6; have G6 := Lib.hid h7; have HP6 := Lib.hid (HPx.out.1.below h6 HPx.out.1.lt); have p1 : w6.cell? ⟨w.heap.size + 1, 1, none⟩ = some (.slice uA un uc) := (by rw [HP6.out.cell]; simp); have pf1 := HP6.out.free 1; have HP7 : Hid (Has (w6.setCell ⟨w.heap.size + 1, 1, none⟩ (.slice (some ⟨g6, 0, none⟩) un c6)) (w.heap.size + 1) 53 #[.slice nA nn nc, .slice (some ⟨g6, 0, none⟩) un c6, .slice qA qn qc, .slice gA gn gc]) := Lib.hid (by have := HP6.out.store 1 (.slice (some ⟨g6, 0, none⟩) un c6); simpa using this); have l0 : (w6.setCell ⟨w.heap.size + 1, 1, none⟩ (.slice (some ⟨g6, 0, none⟩) un c6)).cell? ⟨w.heap.size + 1, 0, none⟩ = some (.slice nA nn nc) := (by rw [HP7.out.cell]; rfl); have l1 : (w6.setCell ⟨w.heap.size + 1, 1, none⟩ (.slice (some ⟨g6, 0, none⟩) un c6)).cell? ⟨w.heap.size + 1, 1, none⟩ = some (.slice (some ⟨g6, 0, none⟩) un c6) := (by rw [HP7.out.cell]; rfl); have l2 : (w6.setCell ⟨w.heap.size + 1, 1, none⟩ (.slice (some ⟨g6, 0, none⟩) un c6)).cell? ⟨w.heap.size + 1, 2, none⟩ = some (.slice qA qn qc) := (by rw [HP7.out.cell]; rfl); have l3 : (w6.setCell ⟨w.heap.size + 1, 1, none⟩ (.slice (some ⟨g6, 0, none⟩) un c6)).cell? ⟨w.heap.size + 1, 3, none⟩ = some (.slice gA gn gc) := (by rw [HP7.out.cell]; rfl); clear h5 h6 h7)
          | (go_at_call 16; (with_reducible refine (HCk.out _ _ _ U6.out G6.out B6.out).mono ?_); rintro e w8 ⟨rfl, h5⟩; have HX8 := Lib.hid (HSb8.out w6 w8 c6 g6 B6.out h5).1; have HB8 := Lib.hid (HSb8.out w6 w8 c6 g6 B6.out h5).2; have HA8 := Lib.hid ((HArg.out w6 g6 c6 U6.out G6.out B6.out).below h5); have HAQ8 := Lib.hid (HApQ.out g6 c6 w6 G6.out B6.out); have HP8 := Lib.hid (HP7.out.below h5 HP7.out.lt); have m0 : w8.cell? ⟨w.heap.size + 1, 0, none⟩ = some (.slice nA nn nc) := (by rw [HP8.out.cell]; rfl); have m1 : w8.cell? ⟨w.heap.size + 1, 1, none⟩ = some (.slice (some ⟨g6, 0, none⟩) un c6) := (by rw [HP8.out.cell]; rfl); have m2 : w8.cell? ⟨w.heap.size + 1, 2, none⟩ = some (.slice qA qn qc) := (by rw [HP8.out.cell]; rfl); have m3 : w8.cell? ⟨w.heap.size + 1, 3, none⟩ = some (.slice gA gn gc) := (by rw [HP8.out.cell]; rfl); have d0 : w8.cell? ⟨w.heap.size, 0, none⟩ = some (.slice none 0 0) := (by rw [HX8.out.cell]; rfl); have d1 : w8.cell? ⟨w.heap.size, 1, none⟩ = some (.slice none 0 0) := (by rw [HX8.out.cell]; rfl); have d2 : w8.cell? ⟨w.heap.size, 2, none⟩ = some (.slice none 0 0) := (by rw [HX8.out.cell]; rfl); have d3 : w8.cell? ⟨w.heap.size, 3, none⟩ = some (.slice none 0 0) := (by rw [HX8.out.cell]; rfl); have f0 := HX8.out.free 0; have f1 := HX8.out.free 1; have f2 := HX8.out.free 2; have f3 := HX8.out.free 3; clear h5))
        have HxF : Hid (Has ((((w8.setCell ⟨w.heap.size, 0, none⟩ (.slice nA nn nc)).setCell ⟨w.heap.size, 1, none⟩ (.slice (some ⟨g6, 0, none⟩) un c6)).setCell ⟨w.heap.size, 2, none⟩ (.slice qA qn qc)).setCell ⟨w.heap.size, 3, none⟩ (.slice gA gn gc)) w.heap.size 28 #[.slice nA nn nc, .slice (some ⟨g6, 0, none⟩) un c6, .slice qA qn qc, .slice gA gn gc]) := Lib.hid (by
          have := (((HX8.out.store 0 (.slice nA nn nc)).store 1 (.slice (some ⟨g6, 0, none⟩) un c6)).store 2 (.slice qA qn qc)).store 3 (.slice gA gn gc)
          simpa using this)
        have HbF : Hid (Below w.heap.size w ((((w8.setCell ⟨w.heap.size, 0, none⟩ (.slice nA nn nc)).setCell ⟨w.heap.size, 1, none⟩ (.slice (some ⟨g6, 0, none⟩) un c6)).setCell ⟨w.heap.size, 2, none⟩ (.slice qA qn qc)).setCell ⟨w.heap.size, 3, none⟩ (.slice gA gn gc))) := Lib.hid ((((HB8.out.setCell (p := ⟨w.heap.size, 0, none⟩) (Nat.le_refl _) _).setCell (p := ⟨w.heap.size, 1, none⟩) (Nat.le_refl _) _).setCell (p := ⟨w.heap.size, 2, none⟩) (Nat.le_refl _) _).setCell (p := ⟨w.heap.size, 3, none⟩) (Nat.le_refl _) _)
        have HaF : Hid (ArgC ((((w8.setCell ⟨w.heap.size, 0, none⟩ (.slice nA nn nc)).setCell ⟨w.heap.size, 1, none⟩ (.slice (some ⟨g6, 0, none⟩) un c6)).setCell ⟨w.heap.size, 2, none⟩ (.slice qA qn qc)).setCell ⟨w.heap.size, 3, none⟩ (.slice gA gn gc)) ⟨nA, nn, nc, some ⟨g6, 0, none⟩, un, c6, qA, qn, qc, gA, gn, gc⟩ { c with up := closeN c.up }) := Lib.hid ((((HA8.out.far HAQ8.out _).far HAQ8.out _).far HAQ8.out _).far HAQ8.out _)
        generalize ((((w8.setCell ⟨w.heap.size, 0, none⟩ (.slice nA nn nc)).setCell ⟨w.heap.size, 1, none⟩ (.slice (some ⟨g6, 0, none⟩) un c6)).setCell ⟨w.heap.size, 2, none⟩ (.slice qA qn qc)).setCell ⟨w.heap.size, 3, none⟩ (.slice gA gn gc)) = Wf at HxF HbF HaF ⊢
        refine ⟨rfl, .tuple #[.agg #[.slice nA nn nc, .slice (some ⟨g6, 0, none⟩) un c6, .slice qA qn qc, .slice gA gn gc], .int .i64 0, .int .i64 0, .int .i64 0], ?_, ?_⟩
        · have k0 : Wf.cell? ⟨w.heap.size, 0, none⟩ = some (.slice nA nn nc) := by (rw [HxF.out.cell]; rfl)
          have k1 : Wf.cell? ⟨w.heap.size, 1, none⟩ = some (.slice (some ⟨g6, 0, none⟩) un c6) := by (rw [HxF.out.cell]; rfl)
          have k2 : Wf.cell? ⟨w.heap.size, 2, none⟩ = some (.slice qA qn qc) := by (rw [HxF.out.cell]; rfl)
          have k3 : Wf.cell? ⟨w.heap.size, 3, none⟩ = some (.slice gA gn gc) := by (rw [HxF.out.cell]; rfl)
          simp [results, Tryz.f11, go_sem, k0, k1, k2, k3]
        · rw [HE.out]
          exact ⟨⟨nA, nn, nc, some ⟨g6, 0, none⟩, un, c6, qA, qn, qc, gA, gn, gc⟩, rfl, HaF.out, HbF.out⟩

end Go.Proofs.YtogcbmhcddcfkaaGreatDoor
