/- Layer 14: the landed code: At: contract, no statement. -/
import Derived.Test.YtnidommmnmpdlaaCtg
import Derived.Shelf.Abstract
import Derived.Lib.MinMax
namespace Go.Proofs.Ytnidommmnmpdlaa
open Go.RowKit Go.Shelf
set_option linter.unusedVariables false
attribute [local go_sem] Oper.semAt_some

/-- The best place so far, and how great its greater part is. -/
def bestN (l : List Int) (m : Nat) : Int := if m = 0 then 0 else (bestTo l m : Int)
def leastN (l : List Int) (m : Nat) : Int := if m = 0 then 0 else worseZ l (bestTo l m)
theorem best_step (l : List Int) (m : Nat) (h : m = 0 ∨ worseZ l (m + 1) < leastN l m) : bestN l (m + 1) = ((m + 1 : Nat) : Int) ∧ leastN l (m + 1) = worseZ l (m + 1) := by
  unfold bestN leastN at *
  rw [if_neg (Nat.succ_ne_zero m), if_neg (Nat.succ_ne_zero m)]
  by_cases e : m = 0
  · subst e
    exact ⟨rfl, rfl⟩
  · rw [if_neg e] at h
    rw [bestTo_more l (by omega), if_pos (h.resolve_left e)]
    exact ⟨rfl, rfl⟩
theorem best_stay (l : List Int) (m : Nat) (h : m ≠ 0) (h2 : ¬ worseZ l (m + 1) < leastN l m) : bestN l (m + 1) = bestN l m ∧ leastN l (m + 1) = leastN l m := by
  unfold bestN leastN at *
  rw [if_neg h] at h2
  rw [if_neg (Nat.succ_ne_zero m), if_neg (Nat.succ_ne_zero m), if_neg h, if_neg h, bestTo_more l (by omega), if_neg h2]
  exact ⟨rfl, rfl⟩
theorem best_zero (l : List Int) (m : Nat) : bestN l m = 0 ↔ m = 0 := by
  unfold bestN
  by_cases e : m = 0
  · simp [e]
  · rw [if_neg e]
    have := bestTo_in l m (by omega)
    omega
theorem best_all {l : List Int} (h : ¬ sumZ l ≤ 122) : bestN l (l.length - 1) = (atZ l : Int) := by
  unfold bestN atZ
  by_cases e : l.length - 1 = 0
  · rw [if_pos e, if_pos (.inr (by omega))]
    rfl
  · rw [if_neg e, if_neg (by omega)]
theorem bestN_most {l : List Int} {m : Nat} (h : m < l.length) : 0 ≤ bestN l m ∧ bestN l m ≤ l.length := by
  unfold bestN
  split
  · omega
  · have := bestTo_in l m (by omega)
    omega
def AtI (l : List Int) (w : World) (Pb Pl : Nat) (pre : List Nat) (W : World) : Prop := Below w.heap.size w W ∧ Boxed W Pb 3 (.int .i64 (bestN l pre.length)) ∧ Boxed W Pl 3 (.int .i64 (leastN l pre.length))
theorem AtI.minds (l : List Int) (w : World) (Pb Pl B : Nat) (h0 : w.heap.size ≤ B) (h1 : Pb < B) (h2 : Pl < B) : Minds B (AtI l w Pb Pl) := by
  rintro pre X Y row ⟨b, k1, k2⟩ hg hr
  refine ⟨b.grown hg b.size (fun k e => by have := hr k e; omega), k1.kept hg (fun e => by have := hr _ e.symm; omega), k2.kept hg (fun e => by have := hr _ e.symm; omega)⟩

theorem at_turn {w W : World} {Pb Pl B : Nat} {x y u v : Value} (hB : Below w.heap.size w W) (hb : Boxed W Pb 3 x) (hl : Boxed W Pl 3 y) (h1 : w.heap.size ≤ Pb) (h2 : w.heap.size ≤ Pl) (hne : Pb ≠ Pl) :
    KeepsFrom B W ((W.setCell ⟨Pb, 0, none⟩ u).setCell ⟨Pl, 0, none⟩ v) ∧ KpZ Pb Pl W ((W.setCell ⟨Pb, 0, none⟩ u).setCell ⟨Pl, 0, none⟩ v) ∧ Below w.heap.size w ((W.setCell ⟨Pb, 0, none⟩ u).setCell ⟨Pl, 0, none⟩ v) ∧ Boxed ((W.setCell ⟨Pb, 0, none⟩ u).setCell ⟨Pl, 0, none⟩ v) Pb 3 u ∧ Boxed ((W.setCell ⟨Pb, 0, none⟩ u).setCell ⟨Pl, 0, none⟩ v) Pl 3 v :=
  ⟨((KeepsOthers.setCell _ _ _).from _).trans ((KeepsOthers.setCell _ _ _).from _),
    ⟨Nat.le_of_eq (by simp), fun k o hk _ ha hb => (Below.heap_setCell _ ⟨Pl, 0, none⟩ v k hb).trans ((Below.heap_setCell W ⟨Pb, 0, none⟩ u k ha).trans hk)⟩,
    (hB.setCell (p := ⟨Pb, 0, none⟩) h1 _).setCell (p := ⟨Pl, 0, none⟩) h2 _, (hb.set u).other hne v, (hl.other hne.symm u).set v⟩
set_option maxRecDepth 100000 in
set_option maxHeartbeats 2000000 in
theorem cuAt_any (l : List Int) (A : Option Addr) (n c : Nat) (w : World) (h : RowZ w A n c l) (hs : SizZ l) :
    Calls Try.prog 11 #[.slice A n c] w fun e w' => e = .returned (.int .i64 (atZ l)) ∧ Below w.heap.size w w' := by
  by_cases hz : sumZ l ≤ 122
  · have HS := Lib.hid (cuSum_q l A n c w h hs)
    have HZ := Lib.hid (atZ_zero (.inl hz))
    clear h hs
    generalize sumZ l = s at *
    go_enter Try.func11, Try.ntmps11
    go_wp2_with (go_at_call 9; (with_reducible refine HS.out.mono ?_); rintro e w1 ⟨rfl, rfl⟩)
    go_ret
    rw [HZ.out]
    exact ⟨rfl, Below.refl _ _⟩
  have HQ := Lib.hid (cuSum_q l A n c w h hs)
  have hne : l ≠ [] := by
    rintro rfl
    exact hz (by decide)
  have HZ := Lib.hid (best_all hz)
  obtain ⟨s, hsm⟩ : ∃ x, sumZ l = x := ⟨_, rfl⟩
  rw [hsm] at HQ hz
  clear hsm
  have HP := Lib.hid (fun w1 => cuSplits_any A n c w1)
  have HR := Lib.hid h
  have HS := Lib.hid hs
  clear h hs
  refine (callsIn_wide (n := 5)).1 ?_
  refine callsIn_of_wp_marks Try.func11 rfl trivial ?_ rfl
  simp only [Try.ntmps11, List.size_toArray, List.length_cons, List.length_nil, Nat.reduceAdd, Nat.reduceSub, Array.replicate_succ, Array.replicate_zero, List.push_toArray, List.append_toArray, List.nil_append, List.cons_append]
  gi_wp2_with (first
    | (refine ⟨trivial, ?_⟩; gi_at_call 9; refine (callsIn_wide.2 HQ.out).mono ?_; rintro e w1 ⟨rfl, rfl⟩)
    | (refine ⟨trivial, ?_⟩; gi_at_call 17; refine (callsIn_wide.2 (HP.out _)).mono ?_; rintro e w2 ⟨rfl, rfl⟩))
  obtain ⟨W5, hW5⟩ : ∃ W5, ((w.alloc (.cells #[.int .i64 0] 3)).alloc (.cells #[.int .i64 0] 3)).alloc (.cells #[.slice A n c] 22) = W5 := ⟨_, rfl⟩
  rw [hW5]
  have b5 : Below w.heap.size w W5 := hW5 ▸ ((((Below.refl _ w).alloc (Nat.le_refl _) _).alloc (by simp) _).alloc (by simp; omega) _)
  have s5 : W5.heap.size = w.heap.size + 3 := by rw [← hW5]; simp
  have xb : Boxed W5 w.heap.size 3 (.int .i64 0) := hW5 ▸ ((Boxed.new w 3 _).alloc _).alloc _
  have xl : Boxed W5 (w.heap.size + 1) 3 (.int .i64 0) := hW5 ▸ (by have := (Boxed.new (w.alloc (.cells #[.int .i64 0] 3)) 3 (.int .i64 0)).alloc (.cells #[.slice A n c] 22); simpa using this)
  have xs : Boxed W5 (w.heap.size + 1 + 1) 22 (.slice A n c) := hW5 ▸ (by have := Boxed.new ((w.alloc (.cells #[.int .i64 0] 3)).alloc (.cells #[.int .i64 0] 3)) 22 (.slice A n c); simpa using this)
  have r5 : RowZ W5 A n c l := HR.out.below b5
  have HAP : Hid (l ≠ [] → ∀ p : Addr, A = some p → p.block ≠ w.heap.size ∧ p.block ≠ w.heap.size + 1) := Lib.hid (fun hne p e => by
    obtain ⟨g, off, e2, hc⟩ := HR.out.reads.zint14 (List.length_pos_iff.2 hne)
    have := World.block_lt_of_cell? w _ hc
    rw [e] at e2
    cases e2
    simp only at this ⊢
    omega)
  have h1 : 1 ≤ 5 := by omega
  obtain ⟨Pb, hPb⟩ : ∃ Pb, w.heap.size = Pb := ⟨_, rfl⟩
  obtain ⟨Pl, hPl⟩ : ∃ Pl, w.heap.size + 1 = Pl := ⟨_, rfl⟩
  obtain ⟨Bs, hBs⟩ : ∃ Bs, w.heap.size + 1 + 1 = Bs := ⟨_, rfl⟩
  rw [hBs] at xs ⊢
  rw [hPl] at xl HAP ⊢
  rw [hPb] at xb HAP ⊢
  have k1 : Pb < W5.heap.size := xb.lt
  have k2 : Pl < W5.heap.size := xl.lt
  have k3 : Pb ≠ Pl := by omega
  have k4 : Bs ≠ Pb ∧ Bs ≠ Pl := by omega
  have HAR := Lib.hid (HAP.out hne)
  clear hW5 HQ HP HAP
  have hseq : SeqW 4 Try.prog 19 #[.pointer (some ⟨Bs, 0, none⟩)] (encZ l) (KpZ Pb Pl) (fun xs : List Nat => xs.length = l.length - 1) (fun pre x => x = pre.length + 1 ∧ x < l.length) W5 := fun L J W hW hJ hY h0 =>
    cuSplits1_in 4 (by omega) L Pb Pl l A n c Bs HS.out W (r5.below hW) HAR.out ((hW.block Bs xs.lt).trans xs) k4.1 k4.2 (Nat.lt_of_lt_of_le k1 hW.size) (Nat.lt_of_lt_of_le k2 hW.size) J hJ hY h0
  refine range_all h1 (gf := 19) (lb := #[.pointer (some ⟨Bs, 0, none⟩)]) rfl (enters_of Try.func19 (by kernel_rfl) rfl) hseq (fun h k => h.trans k) (fun W k o o' h ho => KpZ.put Pb Pl W k o o' h ho) (Below.refl _ _) (fun _ => rfl)
    (AtI l w Pb Pl) (AtI.minds l w Pb Pl W5.heap.size (by omega) k1 k2) ⟨b5, xb, xl⟩
    (fun x a' W => ∃ B6, W5.heap.size ≤ B6 ∧ Has W B6 33 #[.int .i64 (sumZ (l.take x)), .int .i64 (sumZ (l.drop x))] ∧ a' = { tmps := #[.slice A n c, undef, .int .i64 0, .pointer (some ⟨Pb, 0, none⟩), .pointer (some ⟨Pl, 0, none⟩), .int .i64 (x : Int), .pointer (some ⟨B6, 0, none⟩), undef, .slice A n c, .int .i64 s, .bool (decide (s ≤ 122)), .slice A n c, .func (.func 19) #[] #[.pointer (some ⟨Bs, 0, none⟩)], .int .i64 (x : Int), .agg #[.int .i64 (sumZ (l.take x)), .int .i64 (sumZ (l.drop x))], undef, undef, undef, undef, undef, undef, undef, undef, undef, undef, undef, undef, undef, undef, undef], defers := [] }) ?oax ?assign ?body ?done
  case oax =>
    rintro x a' _ X Y row ⟨B6, h6, hh, ha⟩ hg hr
    exact ⟨B6, h6, hh.grown hg (fun e => by
      obtain ⟨_, o, ho, hc⟩ := hr _ e.symm
      rw [show X.heap[B6]? = _ from hh] at ho
      cases ho
      cases hc), ha⟩
  case assign =>
    intro L pre x W K hI hsz hK
    unfold encZ
    gi_wp2
    refine hK _ _ ?_ ?_ ?_ ⟨W.heap.size, hsz, Has.made W 33 _, rfl⟩
    · exact (KeepsOthers.alloc W _).from _
    · exact ⟨by simp, fun k o hk _ _ _ => (Below.heap_alloc _ _ _ (Array.getElem?_eq_some_iff.1 hk).1).trans hk⟩
    · exact (AtI.minds l w Pb Pl W5.heap.size (by omega) k1 k2).new _ hI
  case body =>
    rintro L pre x a' W ⟨hB, hb, hl⟩ ⟨B6, h6, hh, rfl⟩ ⟨hx, hxl⟩
    have h3 : 1 ≤ 5 - 1 - 1 := by omega
    obtain ⟨mm, hmm⟩ : ∃ mm, pre.length = mm := ⟨_, rfl⟩
    have hlen : (pre ++ [x]).length = mm + 1 := by rw [List.length_append, hmm]; rfl
    rw [hmm] at hb hl hx
    have hx2 : x = mm + 1 := hx
    have HW : Hid (worseZ l (mm + 1) = max (sumZ (l.take x)) (sumZ (l.drop x))) := Lib.hid (hx2 ▸ worseZ_max l x)
    have q1 := sumZ_take HS.out x
    have q2 := (HS.out.back x).sum
    have hbz := best_zero l mm
    have hbm := bestN_most (l := l) (m := mm) (by omega)
    have HST := Lib.hid (best_step l mm)
    have HSY := Lib.hid (best_stay l mm)
    generalize bestN l mm = bb at *
    generalize leastN l mm = ll at *
    generalize sumZ (l.take x) = p at *
    generalize sumZ (l.drop x) = r at *
    have cb := hb.cell
    have cl := hl.cell
    have fb := hb.frozen
    have fl := hl.frozen
    have c0 := hh.cell 0
    have c1 := hh.cell 1
    have HG : Hid (mm = 0 ∨ max p r < ll → KeepsFrom W5.heap.size W ((W.setCell ⟨Pb, 0, none⟩ (.int .i64 ((mm : Int) + 1))).setCell ⟨Pl, 0, none⟩ (.int .i64 (max p r))) ∧ KpZ Pb Pl W ((W.setCell ⟨Pb, 0, none⟩ (.int .i64 ((mm : Int) + 1))).setCell ⟨Pl, 0, none⟩ (.int .i64 (max p r))) ∧ AtI l w Pb Pl (pre ++ [x]) ((W.setCell ⟨Pb, 0, none⟩ (.int .i64 ((mm : Int) + 1))).setCell ⟨Pl, 0, none⟩ (.int .i64 (max p r)))) := Lib.hid (fun hc => by
      obtain ⟨e1, e2⟩ := HST.out (by rw [HW.out]; exact hc)
      obtain ⟨g1, g2, g3, g4, g5⟩ := at_turn (B := W5.heap.size) (u := .int .i64 ((mm : Int) + 1)) (v := .int .i64 (max p r)) hB hb hl (by omega) (by omega) k3
      refine ⟨g1, g2, g3, ?_, ?_⟩
      · rw [hlen, e1]
        exact g4
      · rw [hlen, e2, HW.out]
        exact g5)
    have HS2 : Hid (mm ≠ 0 → ¬ max p r < ll → KeepsFrom W5.heap.size W W ∧ KpZ Pb Pl W W ∧ AtI l w Pb Pl (pre ++ [x]) W) := Lib.hid (fun hc h2 => by
      obtain ⟨e1, e2⟩ := HSY.out hc (by rw [HW.out]; exact h2)
      refine ⟨KeepsFrom.refl _ _, ⟨Nat.le_refl _, fun _ _ h _ _ _ => h⟩, hB, ?_, ?_⟩
      · rw [hlen, e1]
        exact hb
      · rw [hlen, e2]
        exact hl)
    have HX2 := Lib.hid hx2
    have HS5 := Lib.hid s5
    clear HST HSY HW s5 hx2 hbm
    by_cases hm0 : mm = 0
    · have hb0 : bb = 0 := hbz.2 hm0
      subst hb0
      have hG := HG.out (.inl hm0)
      clear hbz
      obtain ⟨xi, hxi⟩ : ∃ xi : Int, (x : Int) = xi := ⟨_, rfl⟩
      have hxi2 : xi = (mm : Int) + 1 := by have := HX2.out; omega
      rw [← hxi2] at hG
      have HGG := Lib.hid hG
      clear hG hm0 hx hxi2
      rw [hxi]
      gi_wp2
      exact HGG.out
    · have hb0 : ¬ bb = 0 := fun e => hm0 (hbz.1 e)
      clear hbz
      by_cases hlt : max p r < ll
      · have hG := HG.out (.inr hlt)
        obtain ⟨xi, hxi⟩ : ∃ xi : Int, (x : Int) = xi := ⟨_, rfl⟩
        have hxi2 : xi = (mm : Int) + 1 := by have := HX2.out; omega
        rw [← hxi2] at hG
        have HGG := Lib.hid hG
        clear hG hm0 hx hxi2
        rw [hxi]
        gi_wp2
        exact HGG.out
      · have HGG := Lib.hid (HS2.out hm0 hlt)
        clear hm0 hx
        gi_wp2
        exact HGG.out
  case done =>
    rintro D xs W hD hxs ⟨hB, hb, hl⟩ hK
    rw [hxs, HZ.out] at hb
    have cR := hb.cell
    gi_wp2
    refine ⟨by simp, .inl ⟨_, _, rfl, run_takeDeferred hK, ?_⟩⟩
    exact ⟨_, results_tmp rfl _ _ _, rfl, hB.trans (belowK_b (w := w) (Nat.le_refl _) W D _ _ (by omega) hK rfl rfl)⟩
end Go.Proofs.Ytnidommmnmpdlaa
