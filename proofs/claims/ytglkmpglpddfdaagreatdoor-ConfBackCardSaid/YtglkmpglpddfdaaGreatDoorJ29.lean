import Derived.Test.YtglkmpglpddfdaaGreatDoorJ28
/- Of a claim's texts, joined: Cpx Whem Cprm. No statement but in the last. -/
section
namespace Go.Proofs.YtglkmpglpddfdaaGreatDoor
open Go.RowKit
set_option linter.unusedVariables false

theorem Einfo : (Tryz.prog.info? 119).map (fun i => (i.zero, i.size, i.bytes)) = some (some (.agg #[.string ⟨#[]⟩, .int .i64 0, .int .i64 0]), 3, 32) := by kernel_rfl
theorem cells3_newE (w : World) (a b c : Value) (ty : TypeId) : ∀ (j : Nat) (u : Value), ([a, b, c] : List Value)[j]? = some u → (w.alloc (.cells #[a, b, c] ty)).cell? ((⟨w.heap.size, 0, none⟩ : Addr).add j) = some u := by
  intro j u hj
  rw [add_plain, (Has.made w ty #[a, b, c]).cell]
  simpa using hj
def WordsE (WN : List Wd × Nat) (w : World) (e : Ending) (w' : World) : Prop :=
  ∃ (out : List We) (v : Value), e = .returned v ∧ w'.ownsRow w.heap.size 119 3 v out.length (cellsE out) ∧ WN = (out.map wdOf, lastE out) ∧ Below w.heap.size w w'
theorem cellsE_snoc (l : List We) (x : We) : cellsE (l ++ [x]) = cellsE l ++ [.string ⟨x.1.toArray⟩, .int .i64 (x.2.1 : Int), .int .i64 (x.2.2 : Int)] := by simp [cellsE, wE]

set_option maxRecDepth 100000 in
set_option maxHeartbeats 4000000 in
theorem words_any (L : List UInt8) (w : World) (hl : L.length ≤ 1000000) :
    Calls Tryz.prog 47 #[.string ⟨L.toArray⟩] w (WordsE (wordsN L) w) := by
  have HCut := Lib.hid (strCut_any L 35 w (by omega))
  obtain ⟨j0, hj, jz0, jz1, jz2⟩ := info_parts Einfo
  have HST := Lib.hid (rdn_start (cutAt 35 L).1)
  rw [← wordsN_ahead L] at HST
  have H35 := Lib.hid (cutAt_no 35 L)
  have hxl := (cutAt_len 35 L).1
  obtain ⟨WN, hWN⟩ : ∃ WN, WN = wordsN L := ⟨_, rfl⟩
  rw [← hWN] at HST ⊢
  clear hWN
  generalize cutAt 35 L = y at HCut HST H35 hxl
  obtain ⟨x, y2, y3⟩ := y
  simp only at HCut HST H35 hxl
  have hcat : (⟨x.toArray⟩ : ByteArray) ++ ⟨#[32]⟩ = ⟨(x ++ [32]).toArray⟩ := str_app x [32]
  have hsx : (⟨x.toArray⟩ : ByteArray).size = x.length := size_list x
  have hs32 : (⟨(x ++ [32]).toArray⟩ : ByteArray).size = x.length + 1 := by rw [size_list]; simp
  have hTl : (x ++ [32]).length = x.length + 1 := by simp
  have HTl := Lib.hid hTl
  clear hTl
  go_enter Tryz.func47, Tryz.ntmps47
  go_wp2_with (go_at_call 46; (with_reducible refine HCut.out.mono ?_); rintro e w1 ⟨rfl, h1⟩; have B1 := Lib.hid h1; clear h1)
  go_loopw [3, 4, 5, 6] (fun v3 v4 v5 v6 wr => ∃ (pos s f nx : Nat) (out : List We), pos ≤ x.length + 1 ∧ wr.heap[w1.heap.size]? = some (.stringIter ⟨(x ++ [32]).toArray⟩ pos) ∧ Below w.heap.size w wr ∧ wr.ownsRow (w1.heap.size + 1) 119 3 v3 out.length (cellsE out) ∧ v4 = .int .i64 (s : Int) ∧ v5 = .int .i64 (f : Int) ∧ v6 = .int .i64 (nx : Int) ∧ f ≤ nx ∧ nx ≤ pos + 1 ∧ out.length ≤ pos ∧ (pos = x.length + 1 → s = pos) ∧ Rdn x pos s f nx out WN) (fun _ _ _ _ wr => x.length + 1 - wr.iterPos w1.heap.size)
  case atStart =>
    refine ⟨0, 0, 1, 1, [], Nat.zero_le _, ?_, B1.out.alloc B1.out.size _, World.ownsRow_nil _ _ _ _, rfl, rfl, rfl, Nat.le_refl _, Nat.le_refl _, Nat.le_refl _, fun h => absurd h (by omega), HST.out⟩
    have := World.iter_heap w1 ⟨(x ++ [32]).toArray⟩ 0
    simpa using this
  case round =>
    obtain ⟨pos, s, f, nx, out, hp, hit, hB, hO, rfl, rfl, rfl, hf, hnx, hol, hend, hR⟩ := hrel
    have HB := Lib.hid hB
    have HO := Lib.hid hO
    have HR := Lib.hid hR
    have HEnd := Lib.hid hend
    have HSZ := Lib.hid B1.out.size
    clear hB hO hR hend
    by_cases hlt : pos < (x ++ [32]).length
    · have hpx : pos ≤ x.length := by have := HTl.out; omega
      obtain ⟨hc, hw1, hw2, hr⟩ := drop_sign hlt
      have hnx' := fun ty => next_sign (P := Tryz.prog) hit hlt ty
      have HI := Lib.hid (fun p => Lib.iterAt_heap wr w1.heap.size ⟨(x ++ [32]).toArray⟩ pos p hit)
      have HBi := Lib.hid (fun p => Lib.below_iterAt HB.out (k := w1.heap.size) B1.out.size ⟨(x ++ [32]).toArray⟩ p)
      have HOi := Lib.hid (fun p => own_iter HO.out (Nat.lt_succ_self _) ⟨(x ++ [32]).toArray⟩ p)
      have HM := Lib.hid (iter_pos hit)
      have h35 := no35 H35.out hpx
      have HSp := Lib.hid (fun h => rdn_space HR.out hpx h)
      have HSi := Lib.hid (fun h => rdn_sign HR.out hpx h h35)
      have hsp : s ≤ pos := HR.out.1
      clear hc h35
      generalize (decL ((x ++ [32]).drop pos)).1 = r at hnx' hr HSp HSi
      generalize (decL ((x ++ [32]).drop pos)).2 = k at hnx' hw1 hw2 HSp HSi
      by_cases hq : r = 32 ∨ r = 9
      · obtain ⟨hk1, hR2⟩ := HSp.out hq
        subst hk1
        have HR2 := Lib.hid hR2
        clear hR2 HSp HSi
        by_cases hs : s < pos
        · rw [if_pos hs] at HR2
          have hext : (⟨x.toArray⟩ : ByteArray).extract s pos = ⟨((x.drop s).take (pos - s)).toArray⟩ := mid_ext x s pos
          have i1 : (0 : Int) ≤ (s : Int) := by omega
          have i2 : (s : Int) ≤ (pos : Int) := by omega
          have i3 : (pos : Int) ≤ (x.length : Int) := by omega
          have d1 : decide ((s : Int) < (pos : Int)) = true := by simp; omega
          have HIk := Lib.hid (HI.out (pos + 1))
          have HBk := Lib.hid (HBi.out (pos + 1))
          have HOk := Lib.hid (HOi.out (pos + 1))
          have HSIZ := Lib.hid (Array.getElem?_eq_some_iff.1 HIk.out).1
          clear HI HBi HOi HO HB hit hr hw1 hw2
          generalize wr.iterAt w1.heap.size ⟨(x ++ [32]).toArray⟩ (pos + 1) = wA at hnx' HIk HBk HOk HSIZ
          rcases hq with rfl | rfl
          all_goals
            go_wp2_with (at_builtin; refine wpList_append_own _ rfl _ _ 73 rfl (w1.heap.size + 1) 119 j0 (.agg #[.string ⟨#[]⟩, .int .i64 0, .int .i64 0]) 3 32 Tryz.underlying73 hj jz0 jz1 jz2 rfl (by decide) _ out.length _ rfl (HOk.out.alloc _) ⟨wA.heap.size, 0, none⟩ 1 1 [.string ⟨((x.drop s).take (pos - s)).toArray⟩, .int .i64 (f : Int), .int .i64 (nx : Int)] rfl rfl ?_ ?_ ?_ ?_ ?_ ?_; (first | exact cells3_newE _ _ _ _ _ | (rw [← hext]; exact cells3_newE _ _ _ _ _)); (intro u hu; simp at hu; rcases hu with rfl | rfl | rfl <;> rfl); (unfold maxLen; omega); (omega); (have hq2 := HSIZ.out; simp; omega); intro v5 w5 h7 h8 h9; have H7 := Lib.hid h7; have H8 := Lib.hid h8; clear h7 h8 h9)
            have O6 := HOk.out
            have I5 := iter_grown (iter_alloc HIk.out (.cells #[.string ⟨((x.drop s).take (pos - s)).toArray⟩, .int .i64 (f : Int), .int .i64 (nx : Int)] 119)) H8.out (own_notK O6 (Nat.lt_succ_self _))
            have B7 := below_own5 ((HBk.out).alloc (Nat.le_trans HSZ.out (Nat.le_of_lt HSIZ.out)) (.cells #[.string ⟨((x.drop s).take (pos - s)).toArray⟩, .int .i64 (f : Int), .int .i64 (nx : Int)] 119)) H8.out ((own_low O6 (Nat.le_trans HSZ.out (Nat.le_succ _))).alloc _) (by have := HSZ.out; have := HSIZ.out; simp; omega)
            refine ⟨⟨pos + 1, pos + 1, nx + 1, nx + 1, out ++ [((x.drop s).take (pos - s), f, nx)], by omega, I5, B7, ?_, by go_num, by go_num, by go_num, Nat.le_refl _, by omega, by rw [List.length_append]; simp; omega, fun _ => rfl, HR2.out⟩, ?_⟩
            · have := H7.out
              rw [cellsE_snoc, List.length_append]
              exact this
            · rw [iter_pos I5, HM.out]
              omega
        · rw [if_neg hs] at HR2
          rcases hq with rfl | rfl
          all_goals
            go_wp2
            go_roundw
            case rel => exact ⟨pos + 1, pos + 1, nx + 1, nx + 1, out, by omega, HI.out _, HBi.out _, HOi.out _, by go_num, by go_num, by go_num, Nat.le_refl _, by omega, by omega, fun _ => rfl, HR2.out⟩
            case measure =>
              rw [iter_pos (HI.out _), HM.out]
              omega
      · obtain ⟨hkx, hR2⟩ := HSi.out hq
        have HR2 := Lib.hid hR2
        have d32 : ((r : Int) == 32) = false := by simp; omega
        have d9 : ((r : Int) == 9) = false := by simp; omega
        clear hR2 HSp HSi
        go_wp2
        go_roundw
        case rel => exact ⟨pos + k, s, f, nx + 1, out, by omega, HI.out _, HBi.out _, HOi.out _, rfl, rfl, by go_num, by omega, by omega, by omega, fun h => absurd h (by omega), HR2.out⟩
        case measure =>
          rw [iter_pos (HI.out _), HM.out]
          omega
    · have hnx' := fun ty => next_end (P := Tryz.prog) hit hlt ty
      have hpe : pos = x.length + 1 := by have := HTl.out; omega
      have HE := Lib.hid (rdn_end HR.out hlt (HEnd.out hpe))
      have HO2 := Lib.hid (own_low HO.out (Nat.le_trans HSZ.out (Nat.le_succ _)))
      obtain ⟨A, c, hA⟩ := own_sl HO.out
      subst hA
      obtain ⟨w3, hw3⟩ : ∃ w3 : World, w3 = wr := ⟨_, rfl⟩
      subst hw3
      go_wp2
      go_ret
      exact ⟨out, _, rfl, HO2.out, HE.out, HB.out⟩

end Go.Proofs.YtglkmpglpddfdaaGreatDoor
end

section
namespace Go.Proofs.YtglkmpglpddfdaaGreatDoor
set_option linter.unusedVariables false

theorem addLast_at {out : List Wd} {b : List UInt8} {p : Wd → Prop} (hp : ∀ x y : Wd, x.2 = y.2 → p x → p y) (h : ∀ x ∈ out, p x) : ∀ x ∈ addLast out b, p x := by
  intro x hx
  unfold addLast at hx
  rcases List.mem_append.1 hx with hx | hx
  · exact h x ((List.dropLast_sublist _).subset hx)
  · obtain ⟨y, hy, rfl⟩ := List.mem_map.1 hx
    exact hp y _ rfl (h y (List.mem_of_getLast? (by simpa using hy)))
theorem wordsM_at (l : List (Nat × List UInt8)) : ∀ (at_ en : Nat) (inn : Bool) (out : List Wd), (∀ x ∈ out, 1 ≤ x.2 ∧ x.2 ≤ at_) → 1 ≤ en → en ≤ at_ + 1 →
    (∀ x ∈ (wordsM l at_ en inn out).1, 1 ≤ x.2 ∧ x.2 ≤ at_ + l.length) ∧ 1 ≤ (wordsM l at_ en inn out).2 ∧ (wordsM l at_ en inn out).2 ≤ at_ + l.length + 1 := by
  induction l with
  | nil => intro at_ en inn out h h1 h2; exact ⟨fun x hx => h x (by simpa [wordsM] using hx), by simpa [wordsM] using h1, by simpa [wordsM] using h2⟩
  | cons y l ih =>
    intro at_ en inn out h h1 h2
    unfold wordsM
    have up : ∀ {x : Wd} {n m : Nat}, 1 ≤ x.2 ∧ x.2 ≤ n → n ≤ m → 1 ≤ x.2 ∧ x.2 ≤ m := fun h hm => ⟨h.1, by omega⟩
    split
    · exact ⟨fun x hx => up (h x hx) (by omega), h1, by omega⟩
    · split
      · obtain ⟨k1, k2, k3⟩ := ih (at_ + 1) en false out (fun x hx => up (h x hx) (by omega)) h1 (by omega)
        exact ⟨fun x hx => up (k1 x hx) (by simp; omega), k2, by simp; omega⟩
      · obtain ⟨k1, k2, k3⟩ := ih (at_ + 1) (at_ + 2) true (addLast (if inn = true then out else out ++ [([], at_ + 1)]) y.2) (addLast_at (p := fun x => 1 ≤ x.2 ∧ x.2 ≤ at_ + 1) (fun x y e h => by rw [← e]; exact h) (by
          intro z hz
          split at hz
          · exact up (h z hz) (by omega)
          · rcases List.mem_append.1 hz with hz | hz
            · exact up (h z hz) (by omega)
            · simp at hz; subst hz; exact ⟨by simp, by simp⟩)) (by omega) (by omega)
        exact ⟨fun x hx => up (k1 x hx) (by simp; omega), k2, by simp; omega⟩
theorem wordsN_at (x : List UInt8) : (∀ y ∈ (wordsN x).1, 1 ≤ y.2 ∧ y.2 ≤ (cut x).length) ∧ 1 ≤ (wordsN x).2 ∧ (wordsN x).2 ≤ (cut x).length + 1 := by
  obtain ⟨h1, h2, h3⟩ := wordsM_at (cut x) 0 1 false [] (fun x hx => by simp at hx) (by omega) (by omega)
  exact ⟨fun y hy => by have := h1 y hy; unfold wordsN at hy; simpa using this, h2, by simpa [wordsN] using h3⟩
theorem badFrom_is {c : Cf} {l : List Wd} {en p : Nat} : ∀ {f i : Nat}, badFrom c l en i f = some p → ∃ j, badAt c l en j = some p := by
  intro f
  induction f with
  | zero => intro i h; cases h
  | succ f ih =>
    intro i h
    unfold badFrom at h
    split at h
    · rename_i q hq
      injection h with h
      subst h
      exact ⟨i, hq⟩
    · exact ih h
end Go.Proofs.YtglkmpglpddfdaaGreatDoor
end

section
namespace Go.Proofs.YtglkmpglpddfdaaGreatDoor
open Go.RowKit
set_option linter.unusedVariables false

def doRaw (c : Cf) (l : List Wd) : Cf := if (wAt l 0).1 = labelT then ⟨c.names ++ [(wAt l 1).1], c.up ++ [2 ^ c.names.length], c.quotas ++ [quotaN (wAt l 2).1], c.grants⟩ else if (wAt l 0).1 = underT then orUp c (numAt c l 1) (numAt c l 2) else apG c ⟨numAt c l 1, numAt c l 2, numAt c l 3⟩
def lineO (c : Cf) (l : List Wd) (en : Nat) : Option Nat :=
  if manyN (wAt l 0).1 = 0 then some (wAt l 0).2
  else match badFrom c l en 1 (manyN (wAt l 0).1 - 1) with
    | some p => some p
    | none => if manyN (wAt l 0).1 < l.length then some (wAt l (manyN (wAt l 0).1)).2 else none
theorem lineN_O (c : Cf) (l : List Wd) (en : Nat) : lineN c l en = match lineO c l en with
    | some p => (c, p)
    | none => (doLine c l, 0) := by
  unfold lineN lineO
  split
  · rfl
  · cases badFrom c l en 1 (manyN (wAt l 0).1 - 1) with
    | some p => rfl
    | none =>
      simp only
      split <;> rfl
def ReadEnd (base P ln : Nat) (c : Cf) (l : List Wd) (en : Nat) (w : World) (e : Ending) (w' : World) : Prop :=
  (∃ p, lineO c l en = some p ∧ 0 < p ∧ FailEnd ln p base w e w') ∨ (lineO c l en = none ∧ DoneEnd base P ln (doRaw c l) w e w')
theorem readFail {base P ln p en : Nat} {c : Cf} {l : List Wd} {w w' : World} {e : Ending} (h : lineO c l en = some p) (hp : 0 < p) (hf : FailEnd ln p base w e w') : ReadEnd base P ln c l en w e w' := .inl ⟨p, h, hp, hf⟩
theorem readDone {base P ln en : Nat} {c : Cf} {l : List Wd} {w w' : World} {e : Ending} (h : lineO c l en = none) (hd : DoneEnd base P ln (doRaw c l) w e w') : ReadEnd base P ln c l en w e w' := .inr ⟨h, hd⟩
theorem newB_no {c : Cf} {t : List UInt8} (h : newB c t = false) (hn : c.names.length ≤ 64) : nameB t = false ∨ 0 ≤ findN c.names t ∨ 64 ≤ c.names.length := by
  unfold newB at h
  cases h1 : nameB t
  · exact .inl rfl
  · right
    rw [h1] at h
    simp at h
    by_cases h2 : 0 ≤ findN c.names t
    · exact .inl h2
    · exact .inr (h (by omega))
theorem newB_yes {c : Cf} {t : List UInt8} (h : newB c t = true) : ¬ (nameB t = false ∨ 0 ≤ findN c.names t ∨ 64 ≤ c.names.length) := by
  unfold newB at h
  simp at h
  rintro (h1 | h1 | h1)
  · rw [h.1] at h1; cases h1
  · omega
  · omega

theorem many_l {x0 : We} (h : x0.1 = lblT) (r : List Wd) : manyN (wAt (wdOf x0 :: r) 0).1 = 3 ∧ (wAt (wdOf x0 :: r) 0).1 = labelT := by
  have : (wAt (wdOf x0 :: r) 0).1 = labelT := h
  exact ⟨by rw [this]; rfl, this⟩
theorem many_u {x0 : We} (h : x0.1 = undT) (r : List Wd) : manyN (wAt (wdOf x0 :: r) 0).1 = 3 ∧ (wAt (wdOf x0 :: r) 0).1 ≠ labelT ∧ (wAt (wdOf x0 :: r) 0).1 = underT := by
  have : (wAt (wdOf x0 :: r) 0).1 = underT := h
  exact ⟨by rw [this]; rfl, by rw [this]; decide, this⟩
theorem many_g {x0 : We} (h : x0.1 = grnT) (r : List Wd) : manyN (wAt (wdOf x0 :: r) 0).1 = 4 ∧ (wAt (wdOf x0 :: r) 0).1 ≠ labelT ∧ (wAt (wdOf x0 :: r) 0).1 ≠ underT := by
  have : (wAt (wdOf x0 :: r) 0).1 = grantT := h
  exact ⟨by rw [this]; rfl, by rw [this]; decide, by rw [this]; decide⟩
theorem lb_bad1 {c : Cf} {l : List Wd} {en p : Nat} (h : 1 < l.length) (hl : (wAt l 0).1 = labelT) (hp : (wAt l 1).2 = p) (hf : nameB (wAt l 1).1 = false ∨ 0 ≤ findN c.names (wAt l 1).1 ∨ 64 ≤ c.names.length) : badAt c l en 1 = some p := by
  rw [badAt_one h hl, if_pos hf, hp]
theorem lb_ok1 {c : Cf} {l : List Wd} {en : Nat} (h : 1 < l.length) (hl : (wAt l 0).1 = labelT) (hf : ¬ (nameB (wAt l 1).1 = false ∨ 0 ≤ findN c.names (wAt l 1).1 ∨ 64 ≤ c.names.length)) : badAt c l en 1 = none := by
  rw [badAt_one h hl, if_neg hf]
theorem lb_bad2 {c : Cf} {l : List Wd} {en p : Nat} (h : 2 < l.length) (hl : (wAt l 0).1 = labelT) (hp : (wAt l 2).2 = p) (hf : quotaN (wAt l 2).1 < 0) : badAt c l en 2 = some p := by
  rw [badAt_two h hl, if_pos hf, hp]
theorem lb_ok2 {c : Cf} {l : List Wd} {en : Nat} (h : 2 < l.length) (hl : (wAt l 0).1 = labelT) (hf : ¬ quotaN (wAt l 2).1 < 0) : badAt c l en 2 = none := by
  rw [badAt_two h hl, if_neg hf]
theorem more_at {c : Cf} {l : List Wd} {en n p : Nat} (hN : manyN (wAt l 0).1 = n) (h0 : 0 < n) (hj : ∀ j, 1 ≤ j → j < n → badAt c l en j = none) (hl : n < l.length) (hp : (wAt l n).2 = p) : lineO c l en = some p := by
  unfold lineO
  rw [if_neg (by omega), badFrom_none (fun j h1 h2 => hj j h1 (by omega)), hN]
  simp [hl, hp]
theorem good_at {c : Cf} {l : List Wd} {en n : Nat} (hN : manyN (wAt l 0).1 = n) (h0 : 0 < n) (hj : ∀ j, 1 ≤ j → j < n → badAt c l en j = none) (hl : ¬ n < l.length) : lineO c l en = none := by
  unfold lineO
  rw [if_neg (by omega), badFrom_none (fun j h1 h2 => hj j h1 (by omega)), hN]
  simp [hl]
theorem bad_at {c : Cf} {l : List Wd} {en n k p : Nat} (hN : manyN (wAt l 0).1 = n) (h1 : 1 ≤ k) (hk : k < n) (hj : ∀ j, 1 ≤ j → j < k → badAt c l en j = none) (hb : badAt c l en k = some p) : lineO c l en = some p := by
  unfold lineO
  rw [if_neg (by omega), badFrom_some h1 (by omega) hj hb]
theorem head_at {c : Cf} {l : List Wd} {en : Nat} (h : manyN (wAt l 0).1 = 0) : lineO c l en = some (wAt l 0).2 := by unfold lineO; rw [if_pos h]
theorem j1 {P : Nat → Prop} (h : P 1) : ∀ j, 1 ≤ j → j < 2 → P j := fun j h1 h2 => by
  obtain rfl : j = 1 := (by omega)
  exact h
theorem j2 {P : Nat → Prop} (h : P 1) (k : P 2) : ∀ j, 1 ≤ j → j < 3 → P j := fun j h1 h2 => by
  rcases (show j = 1 ∨ j = 2 by omega) with rfl | rfl
  · exact h
  · exact k
theorem j3 {P : Nat → Prop} (h : P 1) (k : P 2) (m : P 3) : ∀ j, 1 ≤ j → j < 4 → P j := fun j h1 h2 => by
  rcases (show j = 1 ∨ j = 2 ∨ j = 3 by omega) with rfl | rfl | rfl
  · exact h
  · exact k
  · exact m
theorem nm_bad {c : Cf} {l : List Wd} {en i p : Nat} (h : i < l.length) (hl : (wAt l 0).1 ≠ labelT) (hp : (wAt l i).2 = p) (hf : findN c.names (wAt l i).1 < 0) : badAt c l en i = some p := by
  rw [badAt_name h hl, if_pos hf, hp]
theorem nm_ok {c : Cf} {l : List Wd} {en i : Nat} (h : i < l.length) (hl : (wAt l 0).1 ≠ labelT) (hf : ¬ findN c.names (wAt l i).1 < 0) : badAt c l en i = none := by
  rw [badAt_name h hl, if_neg hf]
set_option maxHeartbeats 2000000 in
theorem readLine_any {base P ln en m : Nat} {c : Cf} (l : List We) (hl : l ≠ []) (w : World) (h : PK w base P c ln l en) (hb : base ≤ w.heap.size) (hbg : ∀ w', Below base w w' → Base5 w') (hok : Okf c m) (hm : m ≤ 600000)
    (hsz : ∀ x ∈ l, x.1.length ≤ 1000000) (hp1 : ∀ x ∈ l, 1 ≤ x.2.1) (hp2 : 1 ≤ lastE l) :
    Calls Tryz.prog 48 #[.pointer (some ⟨P, 0, none⟩)] w (ReadEnd base P ln c (l.map wdOf) (lastE l) w) := by
  have hn := hok.most
  have hups := hok.ups
  have hquo := hok.quo
  have hgr : c.grants.length ≤ 600000 := Nat.le_trans hok.few hm
  rcases l with _ | ⟨x0, r⟩
  · exact absurd rfl hl
  have hx0 := hp1 x0 (by simp)
  by_cases hL : x0.1 = lblT
  · have q1 : ∀ r, manyN (wAt (wdOf x0 :: r) 0).1 = 3 := fun r => (many_l hL r).1
    have q2 : ∀ r, (wAt (wdOf x0 :: r) 0).1 = labelT := fun r => (many_l hL r).2
    rcases r with _ | ⟨x, r⟩
    · exact (line_l_nil w h hb hbg hn hL).mono fun e w' hf => readFail (bad_at (k := 1) (q1 []) (by decide) (by decide) (fun j h1 h2 => by omega) (badAt_short (by simp))) hp2 hf
    have hx := hp1 x (by simp)
    have hsx := hsz x (by simp)
    cases hnb : newB c x.1
    · exact (line_l_bad w h hb hbg hn hL hsx hnb).mono fun e w' hf => readFail (bad_at (k := 1) (q1 (wdOf x :: r.map wdOf)) (by decide) (by decide) (fun j h1 h2 => by omega) (lb_bad1 (by simp) (q2 _) rfl (newB_no hnb hn))) hx hf
    have b1 : ∀ r en, badAt c (wdOf x0 :: wdOf x :: r) en 1 = none := fun r en => lb_ok1 (by simp) (q2 _) (newB_yes hnb)
    rcases r with _ | ⟨y, r⟩
    · exact (line_l_short w h hb hbg hn hL hsx hnb).mono fun e w' hf => readFail (bad_at (k := 2) (q1 [wdOf x]) (by decide) (by decide) (j1 (b1 [] _)) (badAt_short (by simp))) hp2 hf
    have hy := hp1 y (by simp)
    have hsy := hsz y (by simp)
    by_cases hq : quotaN y.1 < 0
    · exact (line_l_quota w h hb hbg hn hL hsx hsy hnb hq).mono fun e w' hf => readFail (bad_at (k := 2) (q1 (wdOf x :: wdOf y :: r.map wdOf)) (by decide) (by decide) (j1 (b1 (wdOf y :: r.map wdOf) _)) (lb_bad2 (by simp) (q2 _) rfl hq)) hy hf
    have b2 : ∀ r en, badAt c (wdOf x0 :: wdOf x :: wdOf y :: r) en 2 = none := fun r en => lb_ok2 (by simp) (q2 _) hq
    rcases r with _ | ⟨z, r⟩
    · have hg := good_at (c := c) (en := lastE [x0, x, y]) (q1 [wdOf x, wdOf y]) (by decide) (j2 (b1 [wdOf y] _) (b2 [] _)) (by simp)
      have hd : doRaw c [wdOf x0, wdOf x, wdOf y] = ⟨c.names ++ [x.1], c.up ++ [2 ^ c.names.length], c.quotas ++ [quotaN y.1], c.grants⟩ := by unfold doRaw; rw [if_pos (q2 _)]; rfl
      refine (line_l_good w h hb hbg hn hL hsx hsy (by omega) (by omega) hnb hq).mono fun e w' hf => readDone hg ?_
      show DoneEnd base P ln (doRaw c [wdOf x0, wdOf x, wdOf y]) w e w'
      rw [hd]
      exact hf
    · exact (line_l_more w h hb hbg hn hL hsx hsy (by omega) (by omega) hnb hq).mono fun e w' hf => readFail (more_at (q1 (wdOf x :: wdOf y :: wdOf z :: r.map wdOf)) (by decide) (j2 (b1 (wdOf y :: wdOf z :: r.map wdOf) _) (b2 (wdOf z :: r.map wdOf) _)) (by simp) rfl) (hp1 z (by simp)) hf
  by_cases hU : x0.1 = undT
  · have q1 : ∀ r, manyN (wAt (wdOf x0 :: r) 0).1 = 3 := fun r => (many_u hU r).1
    have q2 : ∀ r, (wAt (wdOf x0 :: r) 0).1 ≠ labelT := fun r => (many_u hU r).2.1
    have q3 : ∀ r, (wAt (wdOf x0 :: r) 0).1 = underT := fun r => (many_u hU r).2.2
    rcases r with _ | ⟨x, r⟩
    · exact (line_u_nil1 w h hb hbg hn hU).mono fun e w' hf => readFail (bad_at (k := 1) (q1 []) (by decide) (by decide) (fun j h1 h2 => by omega) (badAt_short (by simp))) hp2 hf
    by_cases hfx : findN c.names x.1 < 0
    · exact (line_u_bad1 w h hb hbg hn hU hfx).mono fun e w' hf => readFail (bad_at (k := 1) (q1 (wdOf x :: r.map wdOf)) (by decide) (by decide) (fun j h1 h2 => by omega) (nm_bad (by simp) (q2 _) rfl hfx)) (hp1 x (by simp)) hf
    have b1 : ∀ r en, badAt c (wdOf x0 :: wdOf x :: r) en 1 = none := fun r en => nm_ok (by simp) (q2 _) hfx
    rcases r with _ | ⟨y, r⟩
    · exact (line_u_nil2 w h hb hbg hn hU hfx).mono fun e w' hf => readFail (bad_at (k := 2) (q1 [wdOf x]) (by decide) (by decide) (j1 (b1 [] _)) (badAt_short (by simp))) hp2 hf
    by_cases hfy : findN c.names y.1 < 0
    · exact (line_u_bad2 w h hb hbg hn hU hfx hfy).mono fun e w' hf => readFail (bad_at (k := 2) (q1 (wdOf x :: wdOf y :: r.map wdOf)) (by decide) (by decide) (j1 (b1 (wdOf y :: r.map wdOf) _)) (nm_bad (by simp) (q2 _) rfl hfy)) (hp1 y (by simp)) hf
    have b2 : ∀ r en, badAt c (wdOf x0 :: wdOf x :: wdOf y :: r) en 2 = none := fun r en => nm_ok (by simp) (q2 _) hfy
    rcases r with _ | ⟨z, r⟩
    · have hg := good_at (c := c) (en := lastE [x0, x, y]) (q1 [wdOf x, wdOf y]) (by decide) (j2 (b1 [wdOf y] _) (b2 [] _)) (by simp)
      have hd : doRaw c [wdOf x0, wdOf x, wdOf y] = orUp c (findN c.names x.1) (findN c.names y.1) := by unfold doRaw; rw [if_neg (q2 _), if_pos (q3 _)]; rfl
      refine (line_u_good w h hb hbg hn hU hfx hfy hups hok.big).mono fun e w' hf => readDone hg ?_
      show DoneEnd base P ln (doRaw c [wdOf x0, wdOf x, wdOf y]) w e w'
      rw [hd]
      exact hf
    · exact (line_u_more w h hb hbg hn hU hfx hfy hups hok.big).mono fun e w' hf => readFail (more_at (q1 (wdOf x :: wdOf y :: wdOf z :: r.map wdOf)) (by decide) (j2 (b1 (wdOf y :: wdOf z :: r.map wdOf) _) (b2 (wdOf z :: r.map wdOf) _)) (by simp) rfl) (hp1 z (by simp)) hf
  by_cases hG : x0.1 = grnT
  · have q1 : ∀ r, manyN (wAt (wdOf x0 :: r) 0).1 = 4 := fun r => (many_g hG r).1
    have q2 : ∀ r, (wAt (wdOf x0 :: r) 0).1 ≠ labelT := fun r => (many_g hG r).2.1
    have q3 : ∀ r, (wAt (wdOf x0 :: r) 0).1 ≠ underT := fun r => (many_g hG r).2.2
    rcases r with _ | ⟨x, r⟩
    · exact (line_g_nil1 w h hb hbg hn hG).mono fun e w' hf => readFail (bad_at (k := 1) (q1 []) (by decide) (by decide) (fun j h1 h2 => by omega) (badAt_short (by simp))) hp2 hf
    by_cases hfx : findN c.names x.1 < 0
    · exact (line_g_bad1 w h hb hbg hn hG hfx).mono fun e w' hf => readFail (bad_at (k := 1) (q1 (wdOf x :: r.map wdOf)) (by decide) (by decide) (fun j h1 h2 => by omega) (nm_bad (by simp) (q2 _) rfl hfx)) (hp1 x (by simp)) hf
    have b1 : ∀ r en, badAt c (wdOf x0 :: wdOf x :: r) en 1 = none := fun r en => nm_ok (by simp) (q2 _) hfx
    rcases r with _ | ⟨y, r⟩
    · exact (line_g_nil2 w h hb hbg hn hG hfx).mono fun e w' hf => readFail (bad_at (k := 2) (q1 [wdOf x]) (by decide) (by decide) (j1 (b1 [] _)) (badAt_short (by simp))) hp2 hf
    by_cases hfy : findN c.names y.1 < 0
    · exact (line_g_bad2 w h hb hbg hn hG hfx hfy).mono fun e w' hf => readFail (bad_at (k := 2) (q1 (wdOf x :: wdOf y :: r.map wdOf)) (by decide) (by decide) (j1 (b1 (wdOf y :: r.map wdOf) _)) (nm_bad (by simp) (q2 _) rfl hfy)) (hp1 y (by simp)) hf
    have b2 : ∀ r en, badAt c (wdOf x0 :: wdOf x :: wdOf y :: r) en 2 = none := fun r en => nm_ok (by simp) (q2 _) hfy
    rcases r with _ | ⟨z, r⟩
    · exact (line_g_nil3 w h hb hbg hn hG hfx hfy).mono fun e w' hf => readFail (bad_at (k := 3) (q1 [wdOf x, wdOf y]) (by decide) (by decide) (j2 (b1 [wdOf y] _) (b2 [] _)) (badAt_short (by simp))) hp2 hf
    by_cases hfz : findN c.names z.1 < 0
    · exact (line_g_bad3 w h hb hbg hn hG hfx hfy hfz).mono fun e w' hf => readFail (bad_at (k := 3) (q1 (wdOf x :: wdOf y :: wdOf z :: r.map wdOf)) (by decide) (by decide) (j2 (b1 (wdOf y :: wdOf z :: r.map wdOf) _) (b2 (wdOf z :: r.map wdOf) _)) (nm_bad (by simp) (q2 _) rfl hfz)) (hp1 z (by simp)) hf
    have b3 : ∀ r en, badAt c (wdOf x0 :: wdOf x :: wdOf y :: wdOf z :: r) en 3 = none := fun r en => nm_ok (by simp) (q2 _) hfz
    rcases r with _ | ⟨w0, r⟩
    · have hg := good_at (c := c) (en := lastE [x0, x, y, z]) (q1 [wdOf x, wdOf y, wdOf z]) (by decide) (j3 (b1 [wdOf y, wdOf z] _) (b2 [wdOf z] _) (b3 [] _)) (by simp)
      have hd : doRaw c [wdOf x0, wdOf x, wdOf y, wdOf z] = apG c ⟨findN c.names x.1, findN c.names y.1, findN c.names z.1⟩ := by unfold doRaw; rw [if_neg (q2 _), if_neg (q3 _)]; rfl
      refine (line_g_good w h hb hbg hn hG hfx hfy hfz hgr).mono fun e w' hf => readDone hg ?_
      show DoneEnd base P ln (doRaw c [wdOf x0, wdOf x, wdOf y, wdOf z]) w e w'
      rw [hd]
      exact hf
    · exact (line_g_more w h hb hbg hn hG hfx hfy hfz hgr).mono fun e w' hf => readFail (more_at (q1 (wdOf x :: wdOf y :: wdOf z :: wdOf w0 :: r.map wdOf)) (by decide) (j3 (b1 (wdOf y :: wdOf z :: wdOf w0 :: r.map wdOf) _) (b2 (wdOf z :: wdOf w0 :: r.map wdOf) _) (b3 (wdOf w0 :: r.map wdOf) _)) (by simp) rfl) (hp1 w0 (by simp)) hf
  · exact (line_other w h hb hbg hn hL hU hG).mono fun e w' hf => readFail (head_at (by
      show manyN x0.1 = 0
      unfold manyN
      rw [if_neg (by rintro (h | h); exact hL h; exact hU h), if_neg (show ¬ x0.1 = grantT from hG)])) hx0 hf

/-! What a line does, to what the code knows and to what the document knows. -/
structure Rel (c d : Cf) : Prop where
  n : d.names = c.names
  u : d.up = c.up
  q : d.quotas = c.quotas
  g : d.grants = c.grants.foldl insG []
theorem badAt_names {c d : Cf} (h : d.names = c.names) (l : List Wd) (en i : Nat) : badAt d l en i = badAt c l en i := by unfold badAt; rw [h]
theorem badFrom_names {c d : Cf} (h : d.names = c.names) (l : List Wd) (en : Nat) : ∀ (f i : Nat), badFrom d l en i f = badFrom c l en i f := by
  intro f
  induction f with
  | zero => intro i; rfl
  | succ f ih => intro i; unfold badFrom; rw [badAt_names h, ih]
theorem lineO_names {c d : Cf} (h : d.names = c.names) (l : List Wd) (en : Nat) : lineO d l en = lineO c l en := by unfold lineO; rw [badFrom_names h]
theorem badFrom_all {c : Cf} {l : List Wd} {en : Nat} : ∀ {f i : Nat}, badFrom c l en i f = none → ∀ j, i ≤ j → j < i + f → badAt c l en j = none := by
  intro f
  induction f with
  | zero => intro i _ j h1 h2; omega
  | succ f ih =>
    intro i h j h1 h2
    unfold badFrom at h
    cases hb : badAt c l en i with
    | some p => rw [hb] at h; cases h
    | none =>
      rw [hb] at h
      by_cases e : j = i
      · subst e; exact hb
      · exact ih h j (by omega) (by omega)
theorem lineO_none {c : Cf} {l : List Wd} {en : Nat} (h : lineO c l en = none) : manyN (wAt l 0).1 ≠ 0 ∧ ∀ j, 1 ≤ j → j < manyN (wAt l 0).1 → badAt c l en j = none := by
  unfold lineO at h
  split at h
  · cases h
  · rename_i hm
    cases hb : badFrom c l en 1 (manyN (wAt l 0).1 - 1) with
    | some p => rw [hb] at h; cases h
    | none => exact ⟨hm, fun j h1 h2 => badFrom_all hb j h1 (by omega)⟩
theorem badAt_name_none {c : Cf} {l : List Wd} {en i : Nat} (hl : (wAt l 0).1 ≠ labelT) (h : badAt c l en i = none) : ¬ findN c.names (wAt l i).1 < 0 := by
  unfold badAt at h
  split at h
  · cases h
  · try rw [if_neg hl] at h
    split at h
    · cases h
    · assumption
theorem under_or {c : Cf} {m : Nat} (hok : Okf c m) {l : List Wd} (h1 : ¬ numAt c l 1 < 0) (h2 : ¬ numAt c l 2 < 0) : doUnder c l = orUp c (numAt c l 1) (numAt c l 2) := by
  have f1 : numAt c l 1 < c.names.length := findN_lt
  have ha : (numAt c l 1).toNat < c.up.length := by have := hok.ups; omega
  unfold doUnder orUp
  split
  · rename_i hb
    have e : c.up.getD (numAt c l 1).toNat 0 ||| 2 ^ (numAt c l 2).toNat = c.up.getD (numAt c l 1).toNat 0 := by
      apply Nat.eq_of_testBit_eq
      intro j
      rw [Nat.testBit_or, Nat.testBit_two_pow]
      by_cases hj : (numAt c l 2).toNat = j
      · subst hj
        unfold ubit at hb
        rw [hb]
        simp
      · simp [hj]
    rw [e, getD_at _ _ ha, List.set_getElem_self]
  · rename_i hb
    have hb' : (c.up.getD (numAt c l 1).toNat 0).testBit (numAt c l 2).toNat = false := by
      unfold ubit at hb
      simpa using hb
    have e : c.up.getD (numAt c l 1).toNat 0 ||| 2 ^ (numAt c l 2).toNat = c.up.getD (numAt c l 1).toNat 0 + 2 ^ (numAt c l 2).toNat := by
      apply Nat.eq_of_testBit_eq
      intro j
      rw [Nat.testBit_or, Nat.testBit_two_pow, add_bit _ _ _ hb']
      congr 1
      exact decide_eq_decide.2 ⟨fun h => h.symm, fun h => h.symm⟩
    rw [e]
theorem raw_rel {c d : Cf} {m en : Nat} {l : List Wd} (hok : Okf c m) (hd : Rel c d) (h : lineO c l en = none) : Okf (doRaw c l) (m + 1) ∧ Rel (doRaw c l) (doLine d l) := by
  obtain ⟨hm, hj⟩ := lineO_none h
  have hO := lineN_ok hok l en
  rw [lineN_O, h] at hO
  simp only at hO
  unfold doLine at hO
  unfold doRaw doLine
  by_cases hL : (wAt l 0).1 = labelT
  · rw [if_pos hL] at hO
    rw [if_pos hL, if_pos hL]
    have e : (⟨c.names ++ [(wAt l 1).1], c.up ++ [2 ^ c.names.length], c.quotas ++ [quotaN (wAt l 2).1], c.grants⟩ : Cf) = doLabel c l := by unfold doLabel; rw [hok.ups]
    rw [e]
    refine ⟨hO, ?_⟩
    unfold doLabel
    exact ⟨by rw [hd.n], by rw [hd.u], by rw [hd.q], hd.g⟩
  · rw [if_neg hL] at hO
    rw [if_neg hL, if_neg hL]
    have hN : ∀ i, numAt d l i = numAt c l i := fun i => by unfold numAt; rw [hd.n]
    by_cases hU : (wAt l 0).1 = underT
    · have h3 : manyN (wAt l 0).1 = 3 := by rw [hU]; rfl
      have e := under_or hok (badAt_name_none hL (hj 1 (by omega) (by omega))) (badAt_name_none hL (hj 2 (by omega) (by omega)))
      rw [if_pos hU] at hO
      rw [if_pos hU, if_pos hU, ← e]
      refine ⟨hO, ?_⟩
      unfold doUnder
      rw [hN, hN, hd.u]
      split
      · exact hd
      · exact ⟨hd.n, rfl, hd.q, hd.g⟩
    · rw [if_neg hU, if_neg hU]
      refine ⟨⟨hok.ups, hok.quo, hok.most, hok.big, by have := hok.few; simp [apG]; omega⟩, hd.n, hd.u, hd.q, ?_⟩
      simp only [doGrant, apG, hN]
      rw [List.foldl_append, hd.g]
      rfl

end Go.Proofs.YtglkmpglpddfdaaGreatDoor
end
