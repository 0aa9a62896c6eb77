import Derived.Test.YtogcbmhcddcfkaaGreatDoorJCor3
import Derived.Deep.AppendLies
import Derived.Deep.RegionWith
import Derived.Deep.RegionHeld
import Derived.StillTailTactics
/- Of a claim's texts, joined: Cor4. No statement but in the last. -/
namespace Go.Proofs.YtogcbmhcddcfkaaGreatDoor
open Go.RowKit
set_option linter.unusedVariables false

abbrev Wd := List UInt8 × Nat
def addLast (out : List Wd) (b : List UInt8) : List Wd := out.dropLast ++ (out.getLast?.toList.map fun x => (x.1 ++ b, x.2))
theorem addLast_snoc (pre : List Wd) (t : List UInt8) (p : Nat) (b : List UInt8) : addLast (pre ++ [(t, p)]) b = pre ++ [(t ++ b, p)] := by simp [addLast]
def wordsM : List (Nat × List UInt8) → Nat → Nat → Bool → List Wd → List Wd × Nat
  | [], _, en, _, out => (out, en)
  | x :: t, at_, en, inn, out =>
    if x.1 = 35 then (out, en)
    else if x.1 = 32 ∨ x.1 = 9 then wordsM t (at_ + 1) en false out
    else wordsM t (at_ + 1) (at_ + 2) true (addLast (if inn then out else out ++ [([], at_ + 1)]) x.2)
def wordsN (l : List UInt8) : List Wd × Nat := wordsM (cut l) 0 1 false []
def wC (x : Wd) : List Value := [.string ⟨x.1.toArray⟩, .int .i64 (x.2 : Int)]
def cellsW (l : List Wd) : List Value := l.flatMap wC
theorem cellsW_snoc (l : List Wd) (x : Wd) : cellsW (l ++ [x]) = cellsW l ++ [.string ⟨x.1.toArray⟩, .int .i64 (x.2 : Int)] := by simp [cellsW, wC]
theorem cellsW_len (l : List Wd) : (cellsW l).length = l.length * 2 := by
  induction l with
  | nil => rfl
  | cons x l ih => simp [cellsW, wC] at ih ⊢; omega
structure ArgW (w : World) (A : Option Addr) (n c : Nat) (l : List Wd) : Prop where
  len : n = l.length
  reads : Reads w A (cellsW l)
  old : 0 < n → ∀ a, A = some a → a.block < w.heap.size
  room : n ≤ c
  most : c ≤ maxLen
theorem ArgW.below {w w' : World} {A : Option Addr} {n c : Nat} {l : List Wd} (h : ArgW w A n c l) (hb : Below w.heap.size w w') : ArgW w' A n c l :=
  ⟨h.len, h.reads.keep_ hb, fun hn a ha => Nat.lt_of_lt_of_le (h.old hn a ha) hb.size, h.room, h.most⟩
theorem argW_own {w : World} {B n : Nat} {v : Value} {l : List Wd} (h : w.ownsRow B 99 2 v n (cellsW l)) (hn : n = l.length) : ∃ A c, v = .slice A n c ∧ ArgW w A n c l := by
  rcases h.2 with ⟨rfl, rfl⟩ | ⟨g, cap, cur, rfl, hB, hg, h1, h2, _, hcur⟩
  · have : l = [] := List.eq_nil_of_length_eq_zero hn.symm
    subst this
    exact ⟨none, 0, rfl, rfl, fun hx => absurd hx (by simp [cellsW]), fun hx => absurd hx (by omega), Nat.le_refl _, Nat.zero_le _⟩
  · refine ⟨_, cap, rfl, hn, fun _ => ⟨g, 0, rfl, fun j u hj => ?_⟩, fun _ a ha => by injection ha with ha; subst ha; exact (Array.getElem?_eq_some_iff.1 hg).1, h1, h2⟩
    rw [Has.cell (w := w) (g := g) (t := 99) (cs := cur) hg]
    rw [← hcur, List.getElem?_take] at hj
    split at hj
    · simpa using hj
    · cases hj
theorem Winfo : (Tryz.prog.info? 99).map (fun i => (i.zero, i.size, i.bytes)) = some (some (.agg #[.string ⟨#[]⟩, .int .i64 0]), 2, 24) := by kernel_rfl
theorem only_iter (w : World) (k : Nat) (s : ByteArray) (p : Nat) : w.grownBy (w.iterAt k s p) (some k) :=
  ⟨rfl, rfl, rfl, by simp [World.iterAt], fun i hi hn => by
    have : k ≠ i := fun e => hn (by rw [e])
    simp [World.iterAt, this]⟩
theorem own_iter {w : World} {B k n : Nat} {v : Value} {e : TypeId} {z : Nat} {xs : List Value} (h : w.ownsRow B e z v n xs) (hk : k < B) (s : ByteArray) (p : Nat) : (w.iterAt k s p).ownsRow B e z v n xs :=
  h.kept (only_iter w k s p) (by
    rcases hb : v.ownBlock with _ | g
    · exact .inl rfl
    · right
      intro e
      injection e with e
      have := (h.lt g hb).1
      omega)
theorem iter_grown {w w' : World} {k : Nat} {s : ByteArray} {p : Nat} {row : Option Nat} (h : w.heap[k]? = some (.stringIter s p)) (hg : w.grownBy w' row) (hr : row ≠ some k) : w'.heap[k]? = some (.stringIter s p) := by
  rw [hg.block k (Array.getElem?_eq_some_iff.1 h).1 (fun e => hr e.symm)]
  exact h
theorem iter_below {w w' : World} {k B : Nat} {s : ByteArray} {p : Nat} (h : w.heap[k]? = some (.stringIter s p)) (hb : Below B w w') (hk : k < B) : w'.heap[k]? = some (.stringIter s p) := by
  rw [hb.block k hk]
  exact h
theorem iter_alloc {w : World} {k : Nat} {s : ByteArray} {p : Nat} (h : w.heap[k]? = some (.stringIter s p)) (o : Obj) : (w.alloc o).heap[k]? = some (.stringIter s p) :=
  (Below.heap_alloc w o k (Array.getElem?_eq_some_iff.1 h).1).trans h
theorem own_notK {w : World} {B k n : Nat} {v : Value} {e : TypeId} {z : Nat} {xs : List Value} (h : w.ownsRow B e z v n xs) (hk : k < B) : v.ownBlock ≠ some k := by
  intro e
  have := (h.lt k e).1
  omega
theorem own_low {w : World} {B B' n : Nat} {v : Value} {e : TypeId} {z : Nat} {xs : List Value} (h : w.ownsRow B e z v n xs) (hb : B' ≤ B) : w.ownsRow B' e z v n xs := by
  refine ⟨h.1, ?_⟩
  rcases h.2 with h | ⟨g, cap, cur, hv, hB, r⟩
  · exact .inl h
  · exact .inr ⟨g, cap, cur, hv, Nat.le_trans hb hB, r⟩
theorem last_word {l : List Wd} (h : l ≠ []) : ∃ pre t p, l = pre ++ [(t, p)] :=
  ⟨l.dropLast, (l.getLast h).1, (l.getLast h).2, (List.dropLast_concat_getLast h).symm⟩
theorem owns_snoc {w : World} {B a : Nat} {v : Value} {out : List Wd} (h : w.ownsRow B 99 2 v (out.length + 1) (cellsW out ++ [.string ⟨#[]⟩, .int .i64 ((a : Int) + 1)])) : w.ownsRow B 99 2 v (out.length + 1) (cellsW (out ++ [([], a + 1)])) := by
  rw [cellsW_snoc]
  exact h
theorem str_app (a b : List UInt8) : (⟨a.toArray⟩ : ByteArray) ++ ⟨b.toArray⟩ = ⟨(a ++ b).toArray⟩ := by
  apply ByteArray.ext
  simp
theorem extract_mid (L : List UInt8) (a b : Nat) : (⟨L.toArray⟩ : ByteArray).extract a b = ⟨((L.drop a).take (b - a)).toArray⟩ := by
  apply ByteArray.ext
  rw [ByteArray.data_extract]
  simp only [List.extract_toArray, List.extract_eq_take_drop]
theorem cells2_new (w : World) (a b : Value) (ty : TypeId) : ∀ (j : Nat) (u : Value), ([a, b] : List Value)[j]? = some u → (w.alloc (.cells #[a, b] ty)).cell? ((⟨w.heap.size, 0, none⟩ : Addr).add j) = some u := by
  intro j u hj
  rw [add_plain, (Has.made w ty #[a, b]).cell]
  simpa using hj

theorem words_store {w5 w : World} {g cap q pos z k p : Nat} {L t : List UInt8} {pre : List Wd} (hz : z = pos + k) (hq : q = pre.length + 1)
    (hO : w5.ownsRow (w.heap.size + 1) 99 2 (.slice (some ⟨g, 0, none⟩) q cap) q (cellsW (pre ++ [(t, p)]))) (hI : w5.heap[w.heap.size]? = some (.stringIter ⟨L.toArray⟩ (pos + k))) (hB : Below w.heap.size w w5) (hg : w.heap.size + 1 ≤ g) :
    (w5.setCell ⟨g, pre.length * 2, none⟩ (.string ((⟨t.toArray⟩ : ByteArray) ++ (⟨L.toArray⟩ : ByteArray).extract pos z))).drew.heap[w.heap.size]? = some (.stringIter ⟨L.toArray⟩ (pos + k)) ∧
    Below w.heap.size w (w5.setCell ⟨g, pre.length * 2, none⟩ (.string ((⟨t.toArray⟩ : ByteArray) ++ (⟨L.toArray⟩ : ByteArray).extract pos z))).drew ∧
    (w5.setCell ⟨g, pre.length * 2, none⟩ (.string ((⟨t.toArray⟩ : ByteArray) ++ (⟨L.toArray⟩ : ByteArray).extract pos z))).drew.ownsRow (w.heap.size + 1) 99 2 (.slice (some ⟨g, 0, none⟩) q cap) (pre ++ [(t ++ (L.drop pos).take k, p)]).length (cellsW (pre ++ [(t ++ (L.drop pos).take k, p)])) := by
  have e1 : (⟨t.toArray⟩ : ByteArray) ++ (⟨L.toArray⟩ : ByteArray).extract pos z = ⟨(t ++ (L.drop pos).take k).toArray⟩ := by
    rw [extract_mid, hz, Nat.add_sub_cancel_left]
    exact str_app _ _
  rw [e1]
  have h := hO.stored (pre.length * 2) (.string ⟨(t ++ (L.drop pos).take k).toArray⟩)
  have e2 : (cellsW (pre ++ [(t, p)])).set (pre.length * 2) (.string ⟨(t ++ (L.drop pos).take k).toArray⟩) = cellsW (pre ++ [(t ++ (L.drop pos).take k, p)]) := by
    rw [cellsW_snoc, cellsW_snoc, ← cellsW_len, List.set_append_right _ _ (Nat.le_refl _), Nat.sub_self]
    rfl
  have e3 : (pre ++ [(t ++ (L.drop pos).take k, p)]).length = q := by rw [hq, List.length_append]; rfl
  rw [e2] at h
  rw [e3]
  refine ⟨?_, ?_, h.1⟩
  · show (w5.setCell _ _).heap[w.heap.size]? = _
    rw [Below.heap_setCell w5 _ _ _ (by show w.heap.size ≠ g; omega)]
    exact hI
  · exact (hB.setCell (p := ⟨g, pre.length * 2, none⟩) (by show w.heap.size ≤ g; omega) _).drew

def WordsEnd (l : List Wd) (en : Nat) (w : World) (e : Ending) (w' : World) : Prop := ∃ A n c, e = .returned (.tuple #[.slice A n c, .int .i64 (en : Int)]) ∧ ArgW w' A n c l ∧ Below w.heap.size w w' ∧ w'.ownsRow w.heap.size 99 2 (.slice A n c) n (cellsW l)

set_option maxRecDepth 100000 in
set_option maxHeartbeats 1000000 in
theorem r5words_any (L : List UInt8) (w : World) (hl : L.length ≤ 1000000) :
    Calls Tryz.prog 26 #[.string ⟨L.toArray⟩] w (WordsEnd (wordsN L).1 (wordsN L).2 w) := by
  have hsz : (⟨L.toArray⟩ : ByteArray).size = L.length := size_list L
  have HSZ := Lib.hid hsz
  have HBg := Lib.hid (fun (a b k : Nat) (w1 : World) => r5begins_any L a b k w1 hl)
  obtain ⟨j0, hj, jz0, jz1, jz2⟩ := info_parts Winfo
  obtain ⟨WN, hWN⟩ : ∃ WN, WN = wordsN L := ⟨_, rfl⟩
  rw [← hWN]
  have HWN := Lib.hid hWN
  clear hWN
  clear hsz
  go_enter Tryz.func26, Tryz.ntmps26
  go_wp2
  go_loopw [4, 5, 6, 7] (fun v4 v5 v6 v7 wr => ∃ (pos a en : Nat) (inn : Bool) (out : List Wd), pos ≤ L.length ∧ wr.heap[w.heap.size]? = some (.stringIter ⟨L.toArray⟩ pos) ∧ Below w.heap.size w wr ∧ wr.ownsRow (w.heap.size + 1) 99 2 v4 out.length (cellsW out) ∧ v5 = .int .i64 (a : Int) ∧ v6 = .int .i64 (en : Int) ∧ v7 = .bool inn ∧ a ≤ pos ∧ out.length ≤ pos ∧ (∀ x ∈ out, x.1.length ≤ pos) ∧ (inn = true → out ≠ []) ∧ wordsM (cut (L.drop pos)) a en inn out = WN) (fun _ _ _ _ wr => L.length - wr.iterPos w.heap.size)
  case atStart =>
    refine ⟨0, 0, 1, false, [], Nat.zero_le _, ?_, (Below.refl _ w).alloc (Nat.le_refl _) _, World.ownsRow_nil _ _ _ _, rfl, rfl, rfl, Nat.le_refl _, Nat.le_refl _, (fun x hx => absurd hx (by simp)), (fun h => absurd h (by simp)), HWN.out.symm⟩
    have := World.iter_heap w ⟨L.toArray⟩ 0
    simpa using this
  case round =>
    obtain ⟨pos, a, en, inn, out, hp, hit, hB, hO, rfl, rfl, rfl, ha, hol, hxl, hin, hs⟩ := hrel
    have HB := Lib.hid hB
    have HO := Lib.hid hO
    have HS := Lib.hid hs
    have HXL := Lib.hid hxl
    have HIN := Lib.hid hin
    clear hB hO hs hxl hin
    by_cases hlt : pos < L.length
    · obtain ⟨hc, hw1, hw2, hr⟩ := drop_sign hlt
      have hnx := fun ty => next_sign (P := Tryz.prog) hit hlt ty
      have HI := Lib.hid (fun p => Lib.iterAt_heap wr w.heap.size ⟨L.toArray⟩ pos p hit)
      have HBi := Lib.hid (fun p => Lib.below_iterAt HB.out (k := w.heap.size) (Nat.le_refl _) ⟨L.toArray⟩ p)
      have HOi := Lib.hid (fun p => own_iter HO.out (k := w.heap.size) (Nat.lt_succ_self _) ⟨L.toArray⟩ p)
      have HM := Lib.hid (iter_pos hit)
      have HC := Lib.hid hc
      clear hc
      have hw4 : (decL (L.drop pos)).2 ≤ 4 := (decL_width (L.drop pos) (by
        intro e
        have := congrArg List.length e
        simp at this
        omega)).2.1
      have HBx := Lib.hid (fun (b : Nat) (w1 : World) h1 h2 => HBg.out pos b (decL (L.drop pos)).2 w1 hlt rfl h1 h2)
      generalize (decL (L.drop pos)).1 = r at hnx HC hr
      generalize (decL (L.drop pos)).2 = k at hnx HC hw1 hw2 hw4 HBx
      have HSr : Hid (wordsM ((r, (L.drop pos).take k) :: cut (L.drop (pos + k))) a en inn out = WN) := Lib.hid (by rw [← HC.out]; exact HS.out)
      clear HS
      by_cases h35 : r = 35
      · subst h35
        have HE : Hid (WN = (out, en)) := Lib.hid (by rw [← HSr.out]; simp [wordsM])
        obtain ⟨A', c', hv, haw⟩ := argW_own (HOi.out (pos + k)) rfl
        have HQ := Lib.hid haw
        have hw2' := own_low (HOi.out (pos + k)) (Nat.le_succ w.heap.size)
        subst hv
        have HW2 := Lib.hid hw2'
        clear haw HOi HO hw2'
        go_wp2
        go_ret2
        rw [HE.out]
        exact ⟨_, _, _, rfl, HQ.out, HBi.out _, HW2.out⟩
      · have d35 : ((r : Int) == 35) = false := by simp; omega
        by_cases hsp : r = 32 ∨ r = 9
        · have HE : Hid (wordsM (cut (L.drop (pos + k))) (a + 1) en false out = WN) := Lib.hid (by rw [← HSr.out]; simp [wordsM, h35, hsp])
          have hq : r = 32 ∨ r ≠ 32 ∧ r = 9 := by omega
          clear hsp
          rcases hq with rfl | ⟨hq, rfl⟩
          all_goals
            go_wp2
            go_roundw
            case rel => exact ⟨pos + k, a + 1, en, false, out, hw2, HI.out _, HBi.out _, HOi.out _, by go_num, rfl, rfl, by omega, by omega, (fun x hx => by have := HXL.out x hx; omega), (fun h => absurd h (by simp)), HE.out⟩
            case measure =>
              rw [iter_pos (HI.out _), HM.out]
              omega
        · have d32 : ((r : Int) == 32) = false := by simp; omega
          have d9 : ((r : Int) == 9) = false := by simp; omega
          have HE : Hid (wordsM (cut (L.drop (pos + k))) (a + 1) (a + 2) true (addLast (if inn then out else out ++ [([], a + 1)]) ((L.drop pos).take k)) = WN) := Lib.hid (by rw [← HSr.out]; simp [wordsM, h35, hsp])
          clear hsp h35
          have HIk := Lib.hid (HI.out (pos + k))
          have HBk := Lib.hid (HBi.out (pos + k))
          have HOk := Lib.hid (HOi.out (pos + k))
          have HSIZ := Lib.hid (Array.getElem?_eq_some_iff.1 HIk.out).1
          clear HI HBi HOi HO HB HSr HC hit
          generalize wr.iterAt w.heap.size ⟨L.toArray⟩ (pos + k) = wA at hnx HIk HBk HOk HSIZ
          go_wp2
          go_loopw [10] (fun v wx => ∃ s : Nat, v = .int .i64 (s : Int) ∧ 1 ≤ s ∧ s ≤ k ∧ Below wA.heap.size wA wx) (fun v _ => k - (intOf v).toNat)
          case atStart => exact ⟨1, rfl, Nat.le_refl _, hw1, Below.refl _ _⟩
          case round =>
            obtain ⟨s, rfl, hs1, hs2, hBx⟩ := hrel
            have HX := Lib.hid hBx
            clear hBx
            have HCs := Lib.hid (fun w1 => HBx.out (pos + s) w1 (by omega) (by omega))
            by_cases hsk : s < k
            · have hd : decide (pos + s = pos + k ∧ pos + k < L.length) = false := by simp; omega
              rw [hd] at HCs
              clear hd
              go_wp2_with (go_at_call 60; refine (HCs.out _).mono ?_; rintro e w6 ⟨rfl, h6⟩; have B6 := Lib.hid (below_step HX.out h6); clear h6)
              go_roundw
              case rel => exact ⟨s + 1, by go_num, by omega, by omega, B6.out⟩
              case measure => simp [intOf]; omega
            · obtain rfl : s = k := by omega
              have hcs : (¬ pos + s < L.length ∨ (pos + s < L.length ∧ ¬ s < 4)) ∨ (pos + s < L.length ∧ s < 4) := by omega
              rcases hcs with hcs | ⟨hc1, hc2⟩
              · have B6 := Lib.hid HX.out
                cases inn
                · rcases hcs with hc1 | ⟨hc1, hc2⟩
                  all_goals
                    go_wp2_with (at_builtin; have O6 := own_below HOk.out B6.out; refine wpList_append_own _ rfl _ _ 54 rfl (w.heap.size + 1) 99 j0 (.agg #[.string ⟨#[]⟩, .int .i64 0]) 2 24 Tryz.underlying54 hj jz0 jz1 jz2 rfl (by decide) _ out.length _ rfl (O6.alloc _) ⟨wr.heap.size, 0, none⟩ 1 1 [.string ⟨#[]⟩, .int .i64 ((a : Int) + 1)] rfl rfl ?_ ?_ ?_ ?_ ?_ ?_; (exact cells2_new _ _ _ _); (intro u hu; simp at hu; rcases hu with rfl | rfl <;> rfl); (unfold maxLen; omega); (omega); (have hq := B6.out.size; have hq2 := HSIZ.out; simp; omega); intro v5 w5 h7 h8 h9; have H7 := Lib.hid h7; have H8 := Lib.hid h8; clear h7 h8 h9)
                    have O7 := Lib.hid (owns_snoc H7.out)
                    have I5 := Lib.hid (iter_grown (iter_alloc (iter_below HIk.out B6.out HSIZ.out) _) H8.out (own_notK O6 (Nat.lt_succ_self _)))
                    have B7 := Lib.hid (below_own ((HBk.out.trans (B6.out.mono (Nat.le_of_lt HSIZ.out))).alloc (Nat.le_of_lt (Nat.lt_of_lt_of_le HSIZ.out B6.out.size)) (.cells #[.string ⟨#[]⟩, .int .i64 ((a : Int) + 1)] 99)) H8.out ((own_low O6 (Nat.le_succ _)).alloc (.cells #[.string ⟨#[]⟩, .int .i64 ((a : Int) + 1)] 99)) (by have := HSIZ.out; have := B6.out.size; simp; omega))
                    clear H7 H8 O6 B6 HX HIk HBk HOk HSIZ
                    obtain ⟨q, hq, hq0⟩ : ∃ q, q = out.length + 1 ∧ 0 < q := ⟨_, rfl, by omega⟩
                    have hq1 : (q : Int) - 1 = (out.length : Int) := by omega
                    have hq2 : IntKind.i64.wrap (out.length : Int) = (out.length : Int) := IntWalk.i64_in _ (by omega)
                    have hq3 : (out.length : Int) < (q : Int) := by omega
                    have hq4 : q ≤ 1000001 := by omega
                    obtain ⟨g, cap, hv, hg1, hg2⟩ := O7.out.form (by omega)
                    subst hv
                    have cz : w5.drew.cell? ⟨g, out.length * 2, none⟩ = some (.string ⟨([] : List UInt8).toArray⟩) := by
                      show w5.cell? ⟨g, out.length * 2, none⟩ = _
                      rw [O7.out.cellAt (out.length * 2) (by omega), cellsW_snoc, ← cellsW_len]
                      simp
                    have fz : w5.drew.frozen? ⟨g, out.length * 2, none⟩ = false := O7.out.frozenAt _
                    rw [← hq] at O7 ⊢
                    have HQ := Lib.hid hq
                    clear hq
                    have hsz := HSZ.out
                    have hq5 : (0 : Int) ≤ (out.length : Int) := by omega
                    obtain ⟨z, hz⟩ : ∃ z, z = pos + s := ⟨_, rfl⟩
                    have hz1 : IntKind.i64.wrap ((pos : Int) + (s : Int)) = (z : Int) := by rw [IntWalk.i64_in _ (by omega)]; omega
                    have hz2 : (0 : Int) ≤ (pos : Int) := by omega
                    have hz3 : (pos : Int) ≤ (z : Int) := by omega
                    have hz4 : (z : Int) ≤ (L.length : Int) := by omega
                    have hz5 : ¬ 9223372036854775807 < min z L.length - pos := by omega
                    have hz6 : ¬ 9223372036854775807 < ([] : List UInt8).length + (min z L.length - pos) := by simp only [List.length_nil]; omega
                    have HZ := Lib.hid hz
                    clear hz
                    have HWS := Lib.hid (words_store (L := L) HZ.out HQ.out O7.out I5.out B7.out hg1)
                    clear O7 I5 B7
                    go_still_tail 14, (by kernel_rfl)
                    change wpList _ _ _ _ _ w5.drew
                    go_wp2
                    have HEE := HE.out
                    simp only [Bool.false_eq_true, if_false, addLast_snoc] at HEE
                    have hlk : ((L.drop pos).take s).length ≤ s := by rw [List.length_take]; omega
                    refine ⟨⟨pos + s, a + 1, a + 2, true, out ++ [([] ++ (L.drop pos).take s, a + 1)], hw2, HWS.out.1, HWS.out.2.1, HWS.out.2.2, by go_num, by go_num, rfl, by omega, by rw [List.length_append, List.length_singleton]; omega, fun x hx => ?_, fun _ => by simp, HEE⟩, ?_⟩
                    · rcases List.mem_append.1 hx with hx | hx
                      · have := HXL.out x hx
                        omega
                      · rw [List.mem_singleton.1 hx, List.length_append, List.length_nil]
                        omega
                    · rw [iter_pos HWS.out.1, HM.out]
                      omega
                · obtain ⟨pre, t, p, rfl⟩ := last_word (HIN.out rfl)
                  rcases hcs with hc1 | ⟨hc1, hc2⟩
                  all_goals
                    go_wp2
                    have O7 := Lib.hid (own_below HOk.out B6.out)
                    have hqp : (pre ++ [(t, p)]).length = pre.length + 1 := by rw [List.length_append]; rfl
                    rw [hqp] at O7 hol
                    have htl : t.length ≤ pos := HXL.out (t, p) (by simp)
                    have I5 := Lib.hid (iter_below HIk.out B6.out HSIZ.out)
                    have B7 := Lib.hid (HBk.out.trans (B6.out.mono (Nat.le_of_lt HSIZ.out)))
                    clear hqp B6 HX HIk HBk HOk HSIZ
                    obtain ⟨q, hq, hq0⟩ : ∃ q, q = pre.length + 1 ∧ 0 < q := ⟨_, rfl, by omega⟩
                    have hq1 : (q : Int) - 1 = (pre.length : Int) := by omega
                    have hq2 : IntKind.i64.wrap (pre.length : Int) = (pre.length : Int) := IntWalk.i64_in _ (by omega)
                    have hq3 : (pre.length : Int) < (q : Int) := by omega
                    have hq4 : q ≤ 1000001 := by omega
                    obtain ⟨g, cap, hv, hg1, hg2⟩ := O7.out.form (by omega)
                    subst hv
                    have cz : wr.drew.cell? ⟨g, pre.length * 2, none⟩ = some (.string ⟨(t : List UInt8).toArray⟩) := by
                      show wr.cell? ⟨g, pre.length * 2, none⟩ = _
                      rw [O7.out.cellAt (pre.length * 2) (by omega), cellsW_snoc, ← cellsW_len]
                      simp
                    have fz : wr.drew.frozen? ⟨g, pre.length * 2, none⟩ = false := O7.out.frozenAt _
                    rw [← hq] at O7 ⊢
                    have HQ := Lib.hid hq
                    clear hq
                    have hsz := HSZ.out
                    have hq5 : (0 : Int) ≤ (pre.length : Int) := by omega
                    obtain ⟨z, hz⟩ : ∃ z, z = pos + s := ⟨_, rfl⟩
                    have hz1 : IntKind.i64.wrap ((pos : Int) + (s : Int)) = (z : Int) := by rw [IntWalk.i64_in _ (by omega)]; omega
                    have hz2 : (0 : Int) ≤ (pos : Int) := by omega
                    have hz3 : (pos : Int) ≤ (z : Int) := by omega
                    have hz4 : (z : Int) ≤ (L.length : Int) := by omega
                    have hz5 : ¬ 9223372036854775807 < min z L.length - pos := by omega
                    have hz6 : ¬ 9223372036854775807 < (t : List UInt8).length + (min z L.length - pos) := by omega
                    have HZ := Lib.hid hz
                    clear hz
                    have HWS := Lib.hid (words_store (L := L) HZ.out HQ.out O7.out I5.out B7.out hg1)
                    clear O7 I5 B7
                    go_still_tail 14, (by kernel_rfl)
                    change wpList _ _ _ _ _ wr.drew
                    go_wp2
                    have HEE := HE.out
                    simp only [if_true, addLast_snoc] at HEE
                    have hlk : ((L.drop pos).take s).length ≤ s := by rw [List.length_take]; omega
                    refine ⟨⟨pos + s, a + 1, a + 2, true, pre ++ [(t ++ (L.drop pos).take s, p)], hw2, HWS.out.1, HWS.out.2.1, HWS.out.2.2, by go_num, by go_num, rfl, by omega, by rw [List.length_append, List.length_singleton]; omega, fun x hx => ?_, fun _ => by simp, HEE⟩, ?_⟩
                    · rcases List.mem_append.1 hx with hx | hx
                      · have := HXL.out x (List.mem_append_left _ hx)
                        omega
                      · rw [List.mem_singleton.1 hx, List.length_append]
                        omega
                    · rw [iter_pos HWS.out.1, HM.out]
                      omega
              · have hd : decide (pos + s = pos + s ∧ pos + s < L.length) = true := by simp; omega
                rw [hd] at HCs
                clear hd
                cases inn
                · go_wp2_with (first | (go_at_call 60; refine (HCs.out _).mono ?_; rintro e w6 ⟨rfl, h6⟩; have B6 := Lib.hid (below_step HX.out h6); clear h6) | (at_builtin; have O6 := own_below HOk.out B6.out; refine wpList_append_own _ rfl _ _ 54 rfl (w.heap.size + 1) 99 j0 (.agg #[.string ⟨#[]⟩, .int .i64 0]) 2 24 Tryz.underlying54 hj jz0 jz1 jz2 rfl (by decide) _ out.length _ rfl (O6.alloc _) ⟨w6.heap.size, 0, none⟩ 1 1 [.string ⟨#[]⟩, .int .i64 ((a : Int) + 1)] rfl rfl ?_ ?_ ?_ ?_ ?_ ?_; (exact cells2_new _ _ _ _); (intro u hu; simp at hu; rcases hu with rfl | rfl <;> rfl); (unfold maxLen; omega); (omega); (have hq := B6.out.size; have hq2 := HSIZ.out; simp; omega); intro v5 w5 h7 h8 h9; have H7 := Lib.hid h7; have H8 := Lib.hid h8; clear h7 h8 h9))
                  have O7 := Lib.hid (owns_snoc H7.out)
                  have I5 := Lib.hid (iter_grown (iter_alloc (iter_below HIk.out B6.out HSIZ.out) _) H8.out (own_notK O6 (Nat.lt_succ_self _)))
                  have B7 := Lib.hid (below_own ((HBk.out.trans (B6.out.mono (Nat.le_of_lt HSIZ.out))).alloc (Nat.le_of_lt (Nat.lt_of_lt_of_le HSIZ.out B6.out.size)) (.cells #[.string ⟨#[]⟩, .int .i64 ((a : Int) + 1)] 99)) H8.out ((own_low O6 (Nat.le_succ _)).alloc (.cells #[.string ⟨#[]⟩, .int .i64 ((a : Int) + 1)] 99)) (by have := HSIZ.out; have := B6.out.size; simp; omega))
                  clear H7 H8 O6 B6 HX HIk HBk HOk HSIZ
                  obtain ⟨q, hq, hq0⟩ : ∃ q, q = out.length + 1 ∧ 0 < q := ⟨_, rfl, by omega⟩
                  have hq1 : (q : Int) - 1 = (out.length : Int) := by omega
                  have hq2 : IntKind.i64.wrap (out.length : Int) = (out.length : Int) := IntWalk.i64_in _ (by omega)
                  have hq3 : (out.length : Int) < (q : Int) := by omega
                  have hq4 : q ≤ 1000001 := by omega
                  obtain ⟨g, cap, hv, hg1, hg2⟩ := O7.out.form (by omega)
                  subst hv
                  have cz : w5.drew.cell? ⟨g, out.length * 2, none⟩ = some (.string ⟨([] : List UInt8).toArray⟩) := by
                    show w5.cell? ⟨g, out.length * 2, none⟩ = _
                    rw [O7.out.cellAt (out.length * 2) (by omega), cellsW_snoc, ← cellsW_len]
                    simp
                  have fz : w5.drew.frozen? ⟨g, out.length * 2, none⟩ = false := O7.out.frozenAt _
                  rw [← hq] at O7 ⊢
                  have HQ := Lib.hid hq
                  clear hq
                  have hsz := HSZ.out
                  have hq5 : (0 : Int) ≤ (out.length : Int) := by omega
                  obtain ⟨z, hz⟩ : ∃ z, z = pos + s := ⟨_, rfl⟩
                  have hz1 : IntKind.i64.wrap ((pos : Int) + (s : Int)) = (z : Int) := by rw [IntWalk.i64_in _ (by omega)]; omega
                  have hz2 : (0 : Int) ≤ (pos : Int) := by omega
                  have hz3 : (pos : Int) ≤ (z : Int) := by omega
                  have hz4 : (z : Int) ≤ (L.length : Int) := by omega
                  have hz5 : ¬ 9223372036854775807 < min z L.length - pos := by omega
                  have hz6 : ¬ 9223372036854775807 < ([] : List UInt8).length + (min z L.length - pos) := by simp only [List.length_nil]; omega
                  have HZ := Lib.hid hz
                  clear hz
                  have HWS := Lib.hid (words_store (L := L) HZ.out HQ.out O7.out I5.out B7.out hg1)
                  clear O7 I5 B7
                  go_still_tail 14, (by kernel_rfl)
                  change wpList _ _ _ _ _ w5.drew
                  go_wp2
                  have HEE := HE.out
                  simp only [Bool.false_eq_true, if_false, addLast_snoc] at HEE
                  have hlk : ((L.drop pos).take s).length ≤ s := by rw [List.length_take]; omega
                  refine ⟨⟨pos + s, a + 1, a + 2, true, out ++ [([] ++ (L.drop pos).take s, a + 1)], hw2, HWS.out.1, HWS.out.2.1, HWS.out.2.2, by go_num, by go_num, rfl, by omega, by rw [List.length_append, List.length_singleton]; omega, fun x hx => ?_, fun _ => by simp, HEE⟩, ?_⟩
                  · rcases List.mem_append.1 hx with hx | hx
                    · have := HXL.out x hx
                      omega
                    · rw [List.mem_singleton.1 hx, List.length_append, List.length_nil]
                      omega
                  · rw [iter_pos HWS.out.1, HM.out]
                    omega
                · obtain ⟨pre, t, p, rfl⟩ := last_word (HIN.out rfl)
                  go_wp2_with (go_at_call 60; refine (HCs.out _).mono ?_; rintro e w6 ⟨rfl, h6⟩; have B6 := Lib.hid (below_step HX.out h6); clear h6)
                  have O7 := Lib.hid (own_below HOk.out B6.out)
                  have hqp : (pre ++ [(t, p)]).length = pre.length + 1 := by rw [List.length_append]; rfl
                  rw [hqp] at O7 hol
                  have htl : t.length ≤ pos := HXL.out (t, p) (by simp)
                  have I5 := Lib.hid (iter_below HIk.out B6.out HSIZ.out)
                  have B7 := Lib.hid (HBk.out.trans (B6.out.mono (Nat.le_of_lt HSIZ.out)))
                  clear hqp B6 HX HIk HBk HOk HSIZ
                  obtain ⟨q, hq, hq0⟩ : ∃ q, q = pre.length + 1 ∧ 0 < q := ⟨_, rfl, by omega⟩
                  have hq1 : (q : Int) - 1 = (pre.length : Int) := by omega
                  have hq2 : IntKind.i64.wrap (pre.length : Int) = (pre.length : Int) := IntWalk.i64_in _ (by omega)
                  have hq3 : (pre.length : Int) < (q : Int) := by omega
                  have hq4 : q ≤ 1000001 := by omega
                  obtain ⟨g, cap, hv, hg1, hg2⟩ := O7.out.form (by omega)
                  subst hv
                  have cz : w6.drew.cell? ⟨g, pre.length * 2, none⟩ = some (.string ⟨(t : List UInt8).toArray⟩) := by
                    show w6.cell? ⟨g, pre.length * 2, none⟩ = _
                    rw [O7.out.cellAt (pre.length * 2) (by omega), cellsW_snoc, ← cellsW_len]
                    simp
                  have fz : w6.drew.frozen? ⟨g, pre.length * 2, none⟩ = false := O7.out.frozenAt _
                  rw [← hq] at O7 ⊢
                  have HQ := Lib.hid hq
                  clear hq
                  have hsz := HSZ.out
                  have hq5 : (0 : Int) ≤ (pre.length : Int) := by omega
                  obtain ⟨z, hz⟩ : ∃ z, z = pos + s := ⟨_, rfl⟩
                  have hz1 : IntKind.i64.wrap ((pos : Int) + (s : Int)) = (z : Int) := by rw [IntWalk.i64_in _ (by omega)]; omega
                  have hz2 : (0 : Int) ≤ (pos : Int) := by omega
                  have hz3 : (pos : Int) ≤ (z : Int) := by omega
                  have hz4 : (z : Int) ≤ (L.length : Int) := by omega
                  have hz5 : ¬ 9223372036854775807 < min z L.length - pos := by omega
                  have hz6 : ¬ 9223372036854775807 < (t : List UInt8).length + (min z L.length - pos) := by omega
                  have HZ := Lib.hid hz
                  clear hz
                  have HWS := Lib.hid (words_store (L := L) HZ.out HQ.out O7.out I5.out B7.out hg1)
                  clear O7 I5 B7
                  go_still_tail 14, (by kernel_rfl)
                  change wpList _ _ _ _ _ w6.drew
                  go_wp2
                  have HEE := HE.out
                  simp only [if_true, addLast_snoc] at HEE
                  have hlk : ((L.drop pos).take s).length ≤ s := by rw [List.length_take]; omega
                  refine ⟨⟨pos + s, a + 1, a + 2, true, pre ++ [(t ++ (L.drop pos).take s, p)], hw2, HWS.out.1, HWS.out.2.1, HWS.out.2.2, by go_num, by go_num, rfl, by omega, by rw [List.length_append, List.length_singleton]; omega, fun x hx => ?_, fun _ => by simp, HEE⟩, ?_⟩
                  · rcases List.mem_append.1 hx with hx | hx
                    · have := HXL.out x (List.mem_append_left _ hx)
                      omega
                    · rw [List.mem_singleton.1 hx, List.length_append]
                      omega
                  · rw [iter_pos HWS.out.1, HM.out]
                    omega
    · have hnx := fun ty => next_end (P := Tryz.prog) hit hlt ty
      have HE : Hid (WN = (out, en)) := Lib.hid (by rw [← HS.out, List.drop_eq_nil_of_le (by omega), cut_nil]; rfl)
      obtain ⟨w5, hw5⟩ : ∃ w5 : World, w5 = wr := ⟨_, rfl⟩
      subst hw5
      obtain ⟨A', c', hv, haw⟩ := argW_own HO.out rfl
      have HQ := Lib.hid haw
      have hw2' := own_low HO.out (Nat.le_succ w.heap.size)
      subst hv
      have HW2 := Lib.hid hw2'
      clear haw HO hw2'
      go_wp2
      go_ret2
      rw [HE.out]
      exact ⟨_, _, _, rfl, HQ.out, HB.out, HW2.out⟩

end Go.Proofs.YtogcbmhcddcfkaaGreatDoor
