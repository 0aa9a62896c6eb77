import Derived.Test.YtlfmmmgdilencaaJ06
import Derived.Laws.Cover3
import Derived.Deep.Onto
import Derived.Test.YtlfmmmgdilencaaJ04
import Derived.StillTail
import Derived.Test.YtlfmmmgdilencaaJLatr
import Derived.Sort.Defs
import Derived.LoopTactic
/- Of a claim's texts, joined: Pif Rdk Sua. No statement but in the last. -/
section
namespace Go.Proofs.Ytlfmmmgdilencaa
open Go.RowKit Go.Maps
set_option linter.unusedVariables false

theorem nilEq12 (m : Option Nat) (w : World) : (binOp .eql 44 (.map m) (.map none)).run Try.prog w = .ok (.bool m.isNone) w := by
  simp only [binOp]
  simp [run_equal_map_nil w 44 _ _ m Try.underlying44]
theorem nilLook12 (v : Int) (w : World) : (Instr.lookup 44 (.map none) (.int .u64 v) false).run Try.prog w = .ok (.int .i64 0) w := by
  kernel_rfl
theorem piNew_any (w : World) : Calls Try.prog 7 #[] w fun e w' => ∃ P lo, e = .returned (.pointer (some ⟨P, 0, none⟩)) ∧ Pn w' P lo [] ∧ w.heap.size ≤ P ∧ w.heap.size ≤ lo ∧ Below w.heap.size w w' ∧ Has w' P 46 #[.map none] := by
  obtain ⟨W2, hW2⟩ : ∃ W2, w.alloc (.cells #[.map none] 46) = W2 := ⟨_, rfl⟩
  have hb : Below w.heap.size w W2 := by
    rw [← hW2]
    exact (Below.refl _ w).alloc (Nat.le_refl _) _
  have hh : Has W2 w.heap.size 46 #[.map none] := by
    rw [← hW2]
    exact Has.made w 46 #[.map none]
  have HP : Hid (Pn W2 w.heap.size w.heap.size []) := Lib.hid ⟨none, hh, ⟨fun _ => rfl, fun b e => by cases e⟩, ⟨Nat.le_refl _, fun b e => by cases e⟩, List.Pairwise.nil, fun x hx => by cases hx⟩
  have HB := Lib.hid hb
  have HH := Lib.hid hh
  have HW := Lib.hid hW2
  clear hb hh hW2
  go_enter Try.func7, Try.ntmps7
  go_wp2
  go_ret
  exact ⟨w.heap.size, w.heap.size, by simp, HW.out ▸ HP.out, Nat.le_refl _, Nat.le_refl _, HW.out ▸ HB.out, HW.out ▸ HH.out⟩
section
variable {w : World} {P lo : Nat} {L : List Nat}
theorem piHeld_same (v : Nat) (h : Pn w P lo L) (hv : v < 2 ^ 64) : Calls Try.prog 14 #[.pointer (some ⟨P, 0, none⟩), .int .u64 (v : Int)] w fun e w' => e = .returned (.int .i64 (L.count v : Int)) ∧ w = w' := by
  obtain ⟨m, h⟩ := h
  have hc := h.hd.cell 0
  rcases m with _ | b
  · obtain rfl := h.mp.1 rfl
    have h0 : ([] : List Nat).count v = 0 := rfl
    rw [h0]
    have hlk := nilLook12 (v : Int) w
    clear h
    go_enter Try.func14, Try.ntmps14
    go_wp2
    go_ret
    exact ⟨rfl, rfl⟩
  · have hlk := (h.mp.2 b rfl).look hv Try.underlying44
    clear h
    go_enter Try.func14, Try.ntmps14
    go_wp2
    go_ret
    exact ⟨rfl, rfl⟩
theorem piHeld_any (v : Nat) (h : Pn w P lo L) (hv : v < 2 ^ 64) (hl : L.length ≤ 1000) : Calls Try.prog 14 #[.pointer (some ⟨P, 0, none⟩), .int .u64 (v : Int)] w fun e w' => e = .returned (.int .i64 (L.count v : Int)) ∧ Below w.heap.size w w' :=
  (piHeld_same v h hv).mono (by rintro e w' ⟨rfl, rfl⟩; exact ⟨rfl, Below.refl _ _⟩)
theorem Pm.turn {w' : World} {mb : Nat} {L' : List Nat} (h : Pm w P lo (some mb) L) (hm : MapIs w' mb L') (hg : w.grownBy w' (some mb)) (hs : srtN L') (hb : ∀ x ∈ L', x < 2 ^ 64) : Pm w' P lo (some mb) L' ∧ Turn w w' P lo := by
  have hP : Has w' P 46 #[.map (some mb)] := h.hd.grown hg (fun e => (h.mp.2 mb rfl).apart h.hd (by injection e))
  exact ⟨⟨hP, ⟨fun e => (by cases e), fun b e => (by injection e with e; subst e; exact hm)⟩, h.lo, hs, hb⟩, mb, hg, h.lo.2 mb rfl, Or.inr ⟨L, h.mp.2 mb rfl, h.hd.cell 0⟩⟩
def MapNew (w w' : World) (P : Nat) : Prop := ∀ b, w'.cell? ⟨P, 0, none⟩ = some (.map (some b)) → w.cell? ⟨P, 0, none⟩ = some (.map (some b)) ∨ w.heap.size ≤ b
theorem MapNew.same {w' : World} {m : Option Nat} {L' : List Nat} (h : Pm w P lo m L) (h' : Pm w' P lo m L') : MapNew w w' P := fun b hb => by
  have h1 := h'.hd.cell 0
  rw [hb] at h1
  have h2 := h.hd.cell 0
  exact Or.inl (h2.trans h1.symm)
set_option maxRecDepth 100000 in
theorem piPin_any (v : Nat) (h : Pn w P lo L) (hv : v < 2 ^ 64) (hl : L.length ≤ 1000) : Calls Try.prog 8 #[.pointer (some ⟨P, 0, none⟩), .int .u64 (v : Int)] w fun e w' => e = .returned (.tuple #[]) ∧ Pn w' P lo (pinN L v) ∧ Turn w w' P lo ∧ MapNew w w' P := by
  obtain ⟨m, h⟩ := h
  have hsr := pinN_srt h.srt v
  have hbg : ∀ x ∈ pinN L v, x < 2 ^ 64 := fun x hx => by
    rcases pinN_mem.1 hx with e | e
    · exact e ▸ hv
    · exact h.big x e
  have hcl := List.count_le_length (a := v) (l := L)
  rcases m with _ | mb
  · obtain rfl := h.mp.1 rfl
    have hc := h.hd.cell 0
    have hfr := h.hd.free 0
    have hlt := h.hd.lt
    have hsz : (w.setCell ⟨P, 0, none⟩ (.map (some w.heap.size))).heap.size = w.heap.size := by simp [World.setCell]
    obtain ⟨w1, hw1⟩ : ∃ w1, w.setCell ⟨P, 0, none⟩ (.map (some w.heap.size)) = w1 := ⟨_, rfl⟩
    obtain ⟨W1, hW1⟩ : ∃ W1, w1.alloc (.map #[] 0) = W1 := ⟨_, rfl⟩
    rw [hw1] at hsz
    have hm1 : MapIs W1 w.heap.size [] := by
      have := MapIs.made w1
      rw [hsz, hW1] at this
      exact this
    have hh1 : Has w1 P 46 #[.map (some w.heap.size)] := by
      have := h.hd.store 0 (.map (some w.heap.size))
      rw [hw1] at this
      simpa using this
    have hh2 : Has W1 P 46 #[.map (some w.heap.size)] := by
      rw [← hW1]
      exact hh1.below ((Below.refl _ w1).alloc (Nat.le_refl _) _) (by rw [hsz]; exact hlt)
    have hc1 : W1.cell? ⟨P, 0, none⟩ = some (.map (some w.heap.size)) := hh2.cell 0
    have g1 : w.grownBy w1 (some P) := by
      rw [← hw1]
      exact only_store (World.grownBy.refl w (some P)) _ _
    have g2 : w.grownBy W1 (some P) := by
      rw [← hW1]
      exact g1.andThen (World.grownBy_alloc w1 _ (some P)) (fun j hj => Or.inr hj)
    have hlk : (Instr.lookup 44 (.map (some w.heap.size)) (.int .u64 (v : Int)) false).run Try.prog W1 = .ok (.int .i64 0) W1 := hm1.look hv Try.underlying44
    obtain ⟨w', hpu, hm, hg⟩ := hm1.put (c := 1) (L' := [v]) hv (by simp) (by omega) Try.underlying44 (by simp) (by simp) (fun k hk => by simp [Ne.symm hk])
    have hpu : (Instr.mapUpdate 44 (.map (some w.heap.size)) (.int .u64 (v : Int)) (.int .i64 1)).run Try.prog W1 = .ok () w' := hpu
    have hh3 : Has w' P 46 #[.map (some w.heap.size)] := hh2.grown hg (fun e => (by injection e with e; omega))
    have hP : Pm w' P lo (some w.heap.size) [v] := ⟨hh3, ⟨fun e => (by cases e), fun b e => (by injection e with e; subst e; exact hm)⟩, ⟨h.lo.1, fun b e => (by injection e with e; have := h.lo.1; omega)⟩, hsr, hbg⟩
    have HP := Lib.hid hP
    have HT : Hid (Turn w w' P lo) := Lib.hid ⟨P, g2.andThen hg (fun j hj => Or.inl (by injection hj with hj; omega)), h.lo.1, Or.inl ⟨rfl, none, h.hd⟩⟩
    have HN : Hid (MapNew w w' P) := Lib.hid (fun b hb => Or.inr (by
      have h1 := hh3.cell 0
      rw [hb] at h1
      have h2 : (Value.map (some b)) = .map (some w.heap.size) := Option.some.inj h1
      injection h2 with h2
      injection h2 with h2
      omega))
    have heq := nilEq12 none w
    have hmm := @run_makeMap Try.prog
    rw [← hw1] at hW1
    have HW := Lib.hid hW1
    rw [← hW1] at hlk hpu hc1
    clear h hm hg g1 g2 hh1 hh2 hh3 hm1 hP hsz hw1 hW1 hsr hbg
    go_enter Try.func8, Try.ntmps8
    go_wp2
    go_end0
    exact ⟨rfl, ⟨_, HP.out⟩, HT.out, HN.out⟩
  · have hc := h.hd.cell 0
    have hlk := (h.mp.2 mb rfl).look hv Try.underlying44
    obtain ⟨w', hpu, hm, hg⟩ := (h.mp.2 mb rfl).put (c := L.count v + 1) (L' := pinN L v) hv hl (by omega) Try.underlying44 (pinN_mem.2 (Or.inl rfl)) (by rw [pinN_count, if_pos rfl]) (fun k hk => by rw [pinN_count, if_neg hk]; rfl)
    obtain ⟨h1, h2⟩ := h.turn hm hg hsr hbg
    have HN := Lib.hid (MapNew.same h h1)
    have HP := Lib.hid h1
    have HG := Lib.hid h2
    obtain ⟨cv, hcv⟩ : ∃ cv, L.count v = cv := ⟨_, rfl⟩
    rw [hcv] at hlk hpu hcl
    have hw1 : IntKind.i64.wrap ((cv : Int) + 1) = (cv : Int) + 1 := by rw [IntKind.wrap_i64]; omega
    rw [show ((cv + 1 : Nat) : Int) = (cv : Int) + 1 by omega] at hpu
    have heq := nilEq12 (some mb) w
    clear h hm hg hcv h1 h2 hsr hbg
    go_enter Try.func8, Try.ntmps8
    go_wp2
    go_end0
    exact ⟨rfl, ⟨_, HP.out⟩, HG.out, HN.out⟩
theorem Turn.none_ {w : World} {P lo : Nat} {m : Option Nat} {L : List Nat} (h : Pm w P lo m L) : Turn w w P lo := ⟨P, World.grownBy.refl _ _, h.lo.1, Or.inl ⟨rfl, m, h.hd⟩⟩
set_option maxRecDepth 100000 in
theorem piUnpin_any (v : Nat) (h : Pn w P lo L) (hv : v < 2 ^ 64) (hl : L.length ≤ 1000) : Calls Try.prog 11 #[.pointer (some ⟨P, 0, none⟩), .int .u64 (v : Int)] w fun e w' => e = .returned (.bool (decide (v ∈ L))) ∧ Pn w' P lo (L.erase v) ∧ Turn w w' P lo ∧ MapNew w w' P := by
  have HH := Lib.hid (piHeld_same v h hv)
  obtain ⟨m, h⟩ := h
  have hcl := List.count_le_length (a := v) (l := L)
  by_cases hm : v ∈ L
  · obtain ⟨mb, rfl⟩ : ∃ mb, m = some mb := by
      cases m with
      | none => rw [h.mp.1 rfl] at hm; cases hm
      | some b => exact ⟨b, rfl⟩
    have hc := h.hd.cell 0
    have hM0 := h.mp.2 mb rfl
    have hlk := hM0.look hv Try.underlying44
    have hce : (L.erase v).count v = L.count v - 1 := List.count_erase_self
    have hpos := List.count_pos_iff.2 hm
    have ho : ∀ k, k ≠ v → (L.erase v).count k = L.count k := fun k hk => List.count_erase_of_ne hk
    have hd : decide (v ∈ L) = true := decide_eq_true hm
    rw [hd]
    by_cases h1 : L.count v = 1
    · obtain ⟨w', hrun, hM, hg⟩ := hM0.drop (L' := L.erase v) hv Try.underlying44 (count_none.1 (by rw [hce, h1])) ho 0
      have hrun2 : ∀ ty, (Builtin.delete_ #[44, 27] ty #[.map (some mb), .int .u64 (v : Int)]).run Try.prog w = .ok (.tuple #[]) w' := fun ty => hrun
      obtain ⟨h2, h3⟩ := h.turn hM hg (erase_srt h.srt v) (fun x hx => h.big x (List.mem_of_mem_erase hx))
      have HN := Lib.hid (MapNew.same h h2)
      have HP := Lib.hid h2
      have HG := Lib.hid h3
      rw [h1] at hlk HH
      have HH : Hid (Calls Try.prog 14 #[.pointer (some ⟨P, 0, none⟩), .int .u64 (v : Int)] w fun e w' => e = .returned (.int .i64 1) ∧ w = w') := HH
      clear h hm hg hce hpos ho hd h1 hM hrun hcl hM0 h2 h3
      go_enter Try.func11, Try.ntmps11
      go_wp2_with (go_at_call 14; (with_reducible refine HH.out.mono ?_); rintro e w8 ⟨rfl, rfl⟩)
      go_ret
      exact ⟨rfl, ⟨_, HP.out⟩, HG.out, HN.out⟩
    · obtain ⟨cv, hcv⟩ : ∃ cv, L.count v = cv + 2 := ⟨L.count v - 2, by omega⟩
      obtain ⟨w', hpu, hM, hg⟩ := hM0.put (c := cv + 1) (L' := L.erase v) hv hl (by omega) Try.underlying44 (List.count_pos_iff.1 (by omega)) (by omega) ho
      obtain ⟨h2, h3⟩ := h.turn hM hg (erase_srt h.srt v) (fun x hx => h.big x (List.mem_of_mem_erase hx))
      have HN := Lib.hid (MapNew.same h h2)
      have HP := Lib.hid h2
      have HG := Lib.hid h3
      rw [hcv] at hlk hcl HH
      have hx0 : (((cv + 2 : Nat) : Int) == 0) = false := by simp; omega
      have hx1 : (((cv + 2 : Nat) : Int) == 1) = false := by simp; omega
      have hy0 : ¬ ((cv : Int) + 2 = 0) := by omega
      have hy1 : ¬ ((cv : Int) + 2 = 1) := by omega
      have hw1 : IntKind.i64.wrap ((cv : Int) + 2 - 1) = (cv : Int) + 1 := by rw [IntKind.wrap_i64]; omega
      have hw2 : IntKind.i64.wrap ((cv : Int) + 1) = (cv : Int) + 1 := by rw [IntKind.wrap_i64]; omega
      rw [show ((cv + 1 : Nat) : Int) = (cv : Int) + 1 by omega] at hpu
      clear h hm hg hce hpos ho hd h1 hM hcv hM0 h2 h3
      go_enter Try.func11, Try.ntmps11
      go_wp2_with (go_at_call 14; (with_reducible refine HH.out.mono ?_); rintro e w8 ⟨rfl, rfl⟩)
      go_ret
      exact ⟨rfl, ⟨_, HP.out⟩, HG.out, HN.out⟩
  · have hd : decide (v ∈ L) = false := decide_eq_false hm
    have hee : L.erase v = L := List.erase_of_not_mem hm
    rw [hd, hee]
    rw [count_none.2 hm] at HH
    have HH : Hid (Calls Try.prog 14 #[.pointer (some ⟨P, 0, none⟩), .int .u64 (v : Int)] w fun e w' => e = .returned (.int .i64 0) ∧ w = w') := HH
    have HN := Lib.hid (MapNew.same h h)
    have HG := Lib.hid (Turn.none_ h)
    have HP := Lib.hid h
    clear h hm hd hee hcl
    go_enter Try.func11, Try.ntmps11
    go_wp2_with (go_at_call 14; (with_reducible refine HH.out.mono ?_); rintro e w8 ⟨rfl, rfl⟩)
    go_ret
    exact ⟨rfl, ⟨_, HP.out⟩, HG.out, HN.out⟩
end
def CollU (D : DataW Unit) (left : Lit → Bool) (ss : List Nat) : Prop := ss.Nodup ∧ (∀ x ∈ ss, x < 2 ^ 64) ∧ ∀ x, x < 2 ^ 64 → (x ∈ ss ↔ (has D (.int .u64 (x : Int)) = true ∧ left (.int .u64 (x : Int)) = false))
theorem CollU.start (D : DataW Unit) : CollU D (has D) [] := ⟨List.nodup_nil, fun x hx => (by cases hx), fun x _ => (by cases has D (.int .u64 (x : Int)) <;> simp)⟩
theorem CollU.step {D : DataW Unit} {left : Lit → Bool} {ss : List Nat} (h : CollU D left ss) {x : Nat} (hx : x < 2 ^ 64) {y : DataW Unit} (hlk : left (.int .u64 (x : Int)) = true) (hat : ∀ zd, D.atKey (.int .u64 (x : Int)) zd = y) : CollU D (fun z => left z && !z.sameKey (.int .u64 (x : Int))) (ss ++ [x]) := by
  have hhas : has D (.int .u64 (x : Int)) = true := has_true_of_atKey hat
  have hnew : x ∉ ss := fun hm => by
    have := ((h.2.2 x hx).1 hm).2
    rw [hlk] at this
    cases this
  refine ⟨List.nodup_append.2 ⟨h.1, by simp, fun a ha b hb => by simp at hb; subst hb; exact fun e => hnew (e ▸ ha)⟩, fun z hz => ?_, fun z hz => ?_⟩
  · rcases List.mem_append.1 hz with hz | hz
    · exact h.2.1 z hz
    · rw [List.mem_singleton.1 hz]
      exact hx
  · by_cases e : z = x
    · subst e
      simp [hhas, Lit.sameKey]
    · have e2 : ¬ ((z : Int) = (x : Int)) := by omega
      simp [h.2.2 z hz, e, e2, Lit.sameKey]
theorem CollU.sub {D : DataW Unit} {left : Lit → Bool} {ss L : List Nat} (h : CollU D left ss) (hS : Says D L) : ∀ x ∈ ss, x ∈ L := fun x hx => by
  have h1 := h.2.1 x hx
  have h2 := ((h.2.2 x h1).1 hx).1
  by_cases e : x ∈ L
  · exact e
  · rw [(hS x h1).2 e] at h2
    cases h2
theorem CollU.all {D : DataW Unit} {left : Lit → Bool} {ss L : List Nat} (h : CollU D left ss) (hS : Says D L) (hb : ∀ x ∈ L, x < 2 ^ 64) (hl : ∀ kl, left kl = false) : ∀ x, x ∈ ss ↔ x ∈ L := fun x =>
  ⟨h.sub hS x, fun hx => (h.2.2 x (hb x hx)).2 ⟨has_true_of_atKey ((hS x (hb x hx)).1 hx), hl _⟩⟩
def oldF (s : Nat × Bool) (x : Nat) : Nat × Bool := if s.2 = false ∨ x < s.1 then (x, true) else s
theorem old_go : ∀ (ss : List Nat) (o : Nat), ∃ m, ss.foldl oldF (o, true) = (m, true) ∧ (m = o ∨ m ∈ ss) ∧ m ≤ o ∧ ∀ x ∈ ss, m ≤ x
  | [], o => ⟨o, rfl, Or.inl rfl, Nat.le_refl _, fun x hx => by cases hx⟩
  | x :: t, o => by
    rw [List.foldl_cons]
    by_cases h : x < o
    · obtain ⟨m, h1, h2, h3, h4⟩ := old_go t x
      refine ⟨m, by rw [show oldF (o, true) x = (x, true) by unfold oldF; rw [if_pos (Or.inr h)]]; exact h1, Or.inr ?_, by omega, fun y hy => ?_⟩
      · rcases h2 with e | e
        · simp [e]
        · simp [e]
      · rcases List.mem_cons.1 hy with e | e
        · omega
        · exact h4 y e
    · obtain ⟨m, h1, h2, h3, h4⟩ := old_go t o
      refine ⟨m, by rw [show oldF (o, true) x = (o, true) by unfold oldF; rw [if_neg (by simpa using h)]]; exact h1, ?_, h3, fun y hy => ?_⟩
      · rcases h2 with e | e
        · exact Or.inl e
        · exact Or.inr (by simp [e])
      · rcases List.mem_cons.1 hy with e | e
        · omega
        · exact h4 y e
theorem oldN_coll {L ss : List Nat} (hs : srtN L) (hm : ∀ x, x ∈ ss ↔ x ∈ L) : ss.foldl oldF (0, false) = oldN L := by
  cases ss with
  | nil =>
    cases L with
    | nil => rfl
    | cons y r => have := (hm y).2 (by simp); cases this
  | cons x t =>
    cases L with
    | nil => have := (hm x).1 (by simp); cases this
    | cons y r =>
      rw [List.foldl_cons, show oldF (0, false) x = (x, true) from rfl]
      obtain ⟨m, h1, h2, h3, h4⟩ := old_go t x
      rw [h1]
      have hy := List.pairwise_cons.1 hs
      have h5 : y ∈ x :: t := (hm y).2 (by simp)
      have h6 : m ≤ y := by
        rcases List.mem_cons.1 h5 with e | e
        · omega
        · exact h4 y e
      have h7 : m ∈ y :: r := (hm m).1 (by rcases h2 with e | e <;> simp [e])
      have h8 : y ≤ m := by
        rcases List.mem_cons.1 h7 with e | e
        · omega
        · exact hy.1 m e
      show (m, true) = (y, true)
      rw [Nat.le_antisymm h6 h8]
section
variable {w : World} {P lo : Nat} {L : List Nat}
set_option maxRecDepth 100000 in
set_option maxHeartbeats 4000000 in
theorem piOldest_any (h : Pn w P lo L) (hl : L.length ≤ 1000) : Calls Try.prog 12 #[.pointer (some ⟨P, 0, none⟩)] w fun e w' => e = .returned (.tuple #[.int .u64 ((oldN L).1 : Int), .bool (oldN L).2]) ∧ Below w.heap.size w w' := by
  obtain ⟨m, h⟩ := h
  have hc := h.hd.cell 0
  rcases m with _ | b
  · obtain rfl := h.mp.1 rfl
    have h1 : oldN [] = (0, false) := rfl
    rw [h1]
    have HB : Hid (Below w.heap.size w (w.alloc (.mapIter none 0 #[] 0))) := Lib.hid ((Below.refl _ w).alloc (Nat.le_refl _) _)
    have hrg := run_range_nilMap (P := Try.prog) w 44 _ _ Try.underlying44
    have hnx : ∀ ty, (Instr.next (.pointer (some ⟨w.heap.size, 0, none⟩)) false ty).run Try.prog (w.alloc (.mapIter none 0 #[] 0)) = _ := fun ty => run_next_nilMap w ty 0 0 #[]
    clear h
    go_enter Try.func12, Try.ntmps12
    go_wp2
    refine wp_loop_rounds 1 ?_
    rw [rounds_succ]
    go_wp2
    go_ret2
    exact ⟨rfl, HB.out⟩
  · obtain ⟨n, D, hown, hS⟩ := h.mp.2 b rfl
    have HS := Lib.hid hS
    have HSR := Lib.hid h.srt
    have HBG := Lib.hid h.big
    have hbl := (h.mp.2 b rfl).lt
    clear h hS
    go_enter Try.func12, Try.ntmps12
    go_wp2_with (first
      | (at_range; refine wpList_range_own _ rfl _ 44 rfl 27 3 keyed12 Try.underlying44 (plainElem Try.prog 3) b n D rfl hown ?_; intro w0 hrg0 hg0 hs0)
      | go_in)
    go_frame
    have HB0 : Hid (Below w.heap.size w w0) := Lib.hid ((Below.refl _ w).grown hg0 (Nat.le_refl _) (fun k hk => (by cases hk)))
    go_loopw [4, 5] (fun vo vf wr => ∃ (left : Lit → Bool) (cnt : Nat) (ss : List Nat), wr.ranges Try.prog 27 (plainElem Try.prog 3) b w.heap.size n D left cnt ∧ CollU D left ss ∧ vo = .int .u64 ((ss.foldl oldF (0, false)).1 : Int) ∧ vf = .bool (ss.foldl oldF (0, false)).2 ∧ Below w.heap.size w wr) (fun _ _ wr => wr.rangeLeft b w.heap.size)
    case atStart => exact ⟨_, _, [], hrg0, CollU.start D, rfl, rfl, HB0.out⟩
    case round =>
      obtain ⟨left, cnt, ss, hrg, hC, rfl, rfl, hB⟩ := hrel
      have HC := Lib.hid hC
      have HB := Lib.hid hB
      obtain ⟨⟨ox, fb⟩, hob⟩ : ∃ r, ss.foldl oldF (0, false) = r := ⟨_, rfl⟩
      rw [hob]
      have HO := Lib.hid hob
      clear hC hB hob
      dsimp only
      go_wp2_with (first
        | (at_next; refine wpList_next_ranges_ii _ rfl _ rfl 27 3 .u64 .i64 keyed12 Try.underlying27 Try.underlying3 b w.heap.size n _ _ _ rfl hrg ?_ ?_)
        | go_in)
      · intro hc0 hl0
        have HE : Hid (oldN L = (ox, fb)) := Lib.hid (by rw [← HO.out]; exact (oldN_coll HSR.out (HC.out.all HS.out HBG.out hl0)).symm)
        clear hl0 hrg
        go_wp2
        go_ret2
        rw [HE.out]
        exact ⟨rfl, HB.out⟩
      · intro x c w1 cnt1 hwx hwc hlx hat hrg1 hlt hg1 hs1 hen
        have hub := u64_bounds hwx
        obtain ⟨k, rfl⟩ : ∃ k : Nat, x = (k : Int) := ⟨x.toNat, by omega⟩
        have hk64 : k < 2 ^ 64 := by omega
        have HC1 := Lib.hid (HC.out.step hk64 hlx hat)
        have HB1 : Hid (Below w.heap.size w w1) := Lib.hid (HB.out.grown hg1 HB.out.size (fun j hj => (by injection hj with hj; omega)))
        have HR1 := Lib.hid hrg1
        have HR := Lib.hid hrg
        have HLT := Lib.hid hlt
        clear hwx hwc hlx hat hrg1 hrg hg1 hs1 hub hk64 hlt
        by_cases hcond : fb = false ∨ k < ox
        · have HF : Hid ((ss ++ [k]).foldl oldF (0, false) = (k, true)) := Lib.hid (by rw [List.foldl_append, HO.out]; show oldF (ox, fb) k = _; unfold oldF; rw [if_pos hcond])
          cases fb with
          | false =>
            clear hcond
            go_wp2
            go_roundw
            case rel => exact ⟨_, _, ss ++ [k], HR1.out, HC1.out, by rw [HF.out], by rw [HF.out], HB1.out⟩
            case measure => rw [HR1.out.left_eq, HR.out.left_eq]; exact HLT.out
          | true =>
            have hlt1 : (k : Int) < (ox : Int) := by
              rcases hcond with e | e
              · cases e
              · omega
            clear hcond
            go_wp2
            go_roundw
            case rel => exact ⟨_, _, ss ++ [k], HR1.out, HC1.out, by rw [HF.out], by rw [HF.out], HB1.out⟩
            case measure => rw [HR1.out.left_eq, HR.out.left_eq]; exact HLT.out
        · have HF : Hid ((ss ++ [k]).foldl oldF (0, false) = (ox, fb)) := Lib.hid (by rw [List.foldl_append, HO.out]; show oldF (ox, fb) k = _; unfold oldF; rw [if_neg hcond])
          obtain rfl : fb = true := by
            cases fb with
            | false => exact absurd (Or.inl rfl) hcond
            | true => rfl
          have hlt1 : ¬ (k : Int) < (ox : Int) := by
            intro e
            exact hcond (Or.inr (by omega))
          clear hcond
          go_wp2
          go_roundw
          case rel => exact ⟨_, _, ss ++ [k], HR1.out, HC1.out, by rw [HF.out], by rw [HF.out], HB1.out⟩
          case measure => rw [HR1.out.left_eq, HR.out.left_eq]; exact HLT.out
def SortRow : Prop := ∀ (w : World) (B : Nat) (v : Value) (l : List Nat), w.ownsRow B 27 1 v l.length (l.map u64V) → l.length < 65536 → (∀ x ∈ l, x < 2 ^ 64) →
    Calls Try.prog 19 #[v] w fun e w' => e = .returned (.tuple #[]) ∧ w.grownBy w' v.ownBlock ∧ ∃ A c l', v = .slice A l.length c ∧ RowU w' A l.length c l' ∧ l'.Perm l ∧ srtN l'
theorem all_sorted {L l' ss : List Nat} (hL : srtN L) (hs : srtN l') (hn : ss.Nodup) (hp : l'.Perm ss) (hm : ∀ x, x ∈ ss ↔ x ∈ L) : l' = allN L := by
  refine inc_ext ?_ (allN_inc hL) (fun x => by rw [hp.mem_iff, hm, allN_mem])
  have h1 : l'.Pairwise (· ≠ ·) := hp.symm.nodup hn
  exact (List.Pairwise.and hs h1).imp (fun ⟨h2, h3⟩ => by omega)
theorem sub_len {ss L : List Nat} (h : ss.Nodup) (hs : ∀ x ∈ ss, x ∈ L) (hl : L.length ≤ 1000) : ss.length ≤ 1000 := Nat.le_trans (nodup_sub_len ss L h hs) hl
set_option maxRecDepth 100000 in
set_option maxHeartbeats 4000000 in
theorem piAll_of (HSO : SortRow) (h : Pn w P lo L) (hl : L.length ≤ 1000) : Calls Try.prog 17 #[.pointer (some ⟨P, 0, none⟩)] w (RowEnd (allN L) w) := by
  have HSO := Lib.hid HSO
  obtain ⟨m, h⟩ := h
  have hc := h.hd.cell 0
  rcases m with _ | b
  · obtain rfl := h.mp.1 rfl
    have h1 : allN [] = [] := rfl
    rw [h1]
    have HB : Hid (Below w.heap.size w (w.alloc (.mapIter none 0 #[] 0))) := Lib.hid ((Below.refl _ w).alloc (Nat.le_refl _) _)
    have hrg := run_range_nilMap (P := Try.prog) w 44 _ _ Try.underlying44
    have hnx : ∀ ty, (Instr.next (.pointer (some ⟨w.heap.size, 0, none⟩)) false ty).run Try.prog (w.alloc (.mapIter none 0 #[] 0)) = _ := fun ty => run_next_nilMap w ty 0 0 #[]
    obtain ⟨W1, hW1⟩ : ∃ W1, w.alloc (.mapIter none 0 #[] 0) = W1 := ⟨_, rfl⟩
    rw [hW1] at HB hrg hnx
    have HSN : Hid (Calls Try.prog 19 #[.slice none 0 0] W1 fun e w' => e = .returned (.tuple #[]) ∧ W1.grownBy w' none) := Lib.hid ((HSO.out W1 W1.heap.size (.slice none 0 0) [] (World.ownsRow_nil _ _ _ _) (by simp) (fun x hx => by cases hx)).mono (fun e w' h => ⟨h.1, h.2.1⟩))
    clear h hW1 HSO
    go_enter Try.func17, Try.ntmps17
    go_wp2
    refine wp_loop_rounds 1 ?_
    rw [rounds_succ]
    go_wp2_with (go_at_call 19; (with_reducible refine HSN.out.mono ?_); rintro e w8 ⟨rfl, h8⟩; have B8 : Hid (Below w.heap.size w w8) := Lib.hid (HB.out.grown h8 HB.out.size (fun k hk => (by cases hk))); clear h8)
    go_ret
    exact ⟨none, 0, 0, rfl, RowU.none_ _, B8.out⟩
  · obtain ⟨n, D, hown, hS⟩ := h.mp.2 b rfl
    have HS := Lib.hid hS
    have HSR := Lib.hid h.srt
    have HBG := Lib.hid h.big
    have hbl := (h.mp.2 b rfl).lt
    obtain ⟨i0, hi, hz0, hz1, hz2⟩ := info_parts u64info
    clear h hS
    go_enter Try.func17, Try.ntmps17
    go_wp2_with (first
      | (at_range; refine wpList_range_own _ rfl _ 44 rfl 27 3 keyed12 Try.underlying44 (plainElem Try.prog 3) b n D rfl hown ?_; intro w0 hrg0 hg0 hs0)
      | go_in)
    go_frame
    have HB0 : Hid (Below w.heap.size w w0) := Lib.hid ((Below.refl _ w).grown hg0 (Nat.le_refl _) (fun k hk => (by cases hk)))
    have HZ0 := Lib.hid hs0
    clear hs0
    go_loopw [3] (fun vo wr => ∃ (left : Lit → Bool) (cnt : Nat) (ss : List Nat), wr.ranges Try.prog 27 (plainElem Try.prog 3) b w.heap.size n D left cnt ∧ CollU D left ss ∧ wr.ownsRow (w.heap.size + 1) 27 1 vo ss.length (ss.map u64V) ∧ Below w.heap.size w wr ∧ w.heap.size + 1 ≤ wr.heap.size) (fun _ wr => wr.rangeLeft b w.heap.size)
    case atStart => exact ⟨_, _, [], hrg0, CollU.start D, World.ownsRow_nil _ _ _ _, HB0.out, Nat.le_of_eq HZ0.out.symm⟩
    case round =>
      obtain ⟨left, cnt, ss, hrg, hC, ho, hB, hZ⟩ := hrel
      have HC := Lib.hid hC
      have HB := Lib.hid hB
      have HO := Lib.hid ho
      have HZ := Lib.hid hZ
      have hlen := sub_len hC.1 (hC.sub HS.out) hl
      obtain ⟨A0, c0, hv, _, _⟩ := own_sliceU ho
      subst hv
      clear hC hB ho hZ
      go_wp2_with (first
        | (at_next; refine wpList_next_ranges_ii _ rfl _ rfl 27 3 .u64 .i64 keyed12 Try.underlying27 Try.underlying3 b w.heap.size n _ _ _ rfl hrg ?_ ?_)
        | go_in)
      · intro hc0' hl0
        have hall := HC.out.all HS.out HBG.out hl0
        have HAL := Lib.hid hall
        have HSN := Lib.hid (HSO.out wr (w.heap.size + 1) _ ss HO.out (by omega) HC.out.2.1)
        clear hl0 hrg hall
        go_wp2_with (go_at_call 19; (with_reducible refine HSN.out.mono ?_); rintro e w8 ⟨rfl, h8, A8, c8, l8, e8, r8, p8, s8⟩; injection e8 with e8a e8b e8c; subst e8a e8c; have B8 : Hid (Below w.heap.size w w8) := Lib.hid (HB.out.grown h8 HB.out.size (fun k hk => Nat.le_of_succ_le (HO.out.lt k hk).1)); have R8 := Lib.hid r8; have E8 := Lib.hid (all_sorted HSR.out s8 HC.out.1 p8 HAL.out); clear h8 r8 p8 s8 e8b)
        go_ret
        exact ⟨_, _, _, rfl, by rw [← E8.out]; exact R8.out, B8.out⟩
      · intro x c w1 cnt1 hwx hwc hlx hat hrg1 hlt hg1 hs1 hen
        have hub := u64_bounds hwx
        obtain ⟨k, rfl⟩ : ∃ k : Nat, x = (k : Int) := ⟨x.toNat, by omega⟩
        have hk64 : k < 2 ^ 64 := by omega
        have HC1 := Lib.hid (HC.out.step hk64 hlx hat)
        have HB1 : Hid (Below w.heap.size w w1) := Lib.hid (HB.out.grown hg1 HB.out.size (fun j hj => (by injection hj with hj; omega)))
        have HO1 := Lib.hid (HO.out.kept hg1 (Or.inr (fun e => (by have := (HO.out.lt _ e).1; omega))))
        have HR1 := Lib.hid hrg1
        have HR := Lib.hid hrg
        have HLT := Lib.hid hlt
        have HZ1 : Hid (w.heap.size + 1 ≤ w1.heap.size) := Lib.hid (by have := HZ.out; omega)
        clear hwx hwc hlx hat hrg1 hrg hg1 hs1 hub hk64 hlt
        go_wp2_with (at_builtin; go_loud (refine wpList_append_own _ rfl _ _ 26 rfl (w.heap.size + 1) 27 i0 (.int .u64 0) 1 8 Try.underlying26 hi hz0 hz1 hz2 rfl (by decide) _ ss.length _ rfl (HO1.out.alloc _) ⟨w1.heap.size, 0, none⟩ 1 1 [.int .u64 (k : Int)] rfl rfl (lies_one12 _ _ _) (by simp [Value.oneCell']) (by unfold maxLen; omega) (by omega) (Nat.le_trans HZ1.out (by simp)) ?_; intro v4 w4 h7 h8 hnil; clear hnil; have O4 := Lib.hid h7; have B4 := Lib.hid (below_own (below_alloc' HB1.out (.cells #[.int .u64 (k : Int)] 27)) h8 ((HO1.out.alloc _).mono (Nat.le_succ _)) (Nat.le_trans HB1.out.size (by simp))); have R4 := Lib.hid ((HR1.out.alloc (.cells #[.int .u64 (k : Int)] 27)).kept h8 (fun e => (by have := ((HO1.out.alloc (.cells #[.int .u64 (k : Int)] 27)).lt _ e.symm).1; omega)) (fun e => (by have := ((HO1.out.alloc (.cells #[.int .u64 (k : Int)] 27)).lt _ e.symm).1; omega))); have Z4 : Hid (w.heap.size + 1 ≤ w4.heap.size) := Lib.hid (Nat.le_trans (Nat.le_trans HZ1.out (by simp)) h8.size); clear h7 h8))
        go_roundw
        case rel => exact ⟨_, _, ss ++ [k], R4.out, HC1.out, by rw [List.length_append, List.map_append]; exact O4.out, B4.out, Z4.out⟩
        case measure => rw [R4.out.left_eq, HR.out.left_eq]; exact HLT.out
end
theorem piPin_nil (v : Int) (w : World) : Calls Try.prog 8 #[.pointer none, .int .u64 v] w fun e w' => e = .returned (.tuple #[]) ∧ Below w.heap.size w w' := by
  go_enter Try.func8, Try.ntmps8
  go_wp2
  refine bodyPost_ret (results_none rfl _ _ _) rfl ?_
  exact ⟨rfl, Below.refl _ _⟩
theorem piHeld_nil (v : Int) (w : World) : Calls Try.prog 14 #[.pointer none, .int .u64 v] w fun e w' => e = .returned (.int .i64 0) ∧ w = w' := by
  go_enter Try.func14, Try.ntmps14
  go_wp2
  go_ret
  exact ⟨rfl, rfl⟩
theorem piUnpin_nil (v : Int) (w : World) : Calls Try.prog 11 #[.pointer none, .int .u64 v] w fun e w' => e = .returned (.bool false) ∧ Below w.heap.size w w' := by
  have H := Lib.hid (piHeld_nil v w)
  go_enter Try.func11, Try.ntmps11
  go_wp2_with (go_at_call 14; (with_reducible refine H.out.mono ?_); rintro e w8 ⟨rfl, rfl⟩)
  go_ret
  exact ⟨rfl, Below.refl _ _⟩
theorem piAll_nil (w : World) : Calls Try.prog 17 #[.pointer none] w fun e w' => ∃ A c, e = .returned (.slice A 0 c) ∧ Below w.heap.size w w' := by
  go_enter Try.func17, Try.ntmps17
  go_wp2
  go_ret
  exact ⟨none, 0, rfl, Below.refl _ _⟩
theorem piOldest_nil (w : World) : Calls Try.prog 12 #[.pointer none] w fun e w' => e = .returned (.tuple #[.int .u64 0, .bool false]) ∧ Below w.heap.size w w' := by
  go_enter Try.func12, Try.ntmps12
  go_wp2
  go_ret2
  exact ⟨rfl, Below.refl _ _⟩
end Go.Proofs.Ytlfmmmgdilencaa
end

section
namespace Go.Proofs.Ytlfmmmgdilencaa
open Go.RowKit
set_option linter.unusedVariables false

section
variable {P : Program} {ops : Array Oper} {Q : Exit → Act → World → Prop} {md : Region.Mode} {C : World → Prop} {k : Nat}
def wpAnyK (P : Program) (md : Region.Mode) (ops : Array Oper) (Q : Exit → Act → World → Prop) (C : World → Prop) (k : Nat) : Nat → Array Bool → Act → World → Prop
  | 0, listed, a, w => Region.ready md ops listed = [] ∧ Q .normal a w
  | fuel + 1, listed, a, w =>
    (Region.ready md ops listed = [] → Q .normal a w) ∧
    ∀ i ∈ Region.ready md ops listed, wpOp P ops Q i (fun a' w' => ((listed.setIfInBounds i true).getD k false = true ∨ C w') ∧ wpAnyK P md ops Q C k fuel (listed.setIfInBounds i true) a' w') a w
theorem wpAny_of_K : ∀ (fuel : Nat) (listed : Array Bool) (a : Act) (w : World), wpAnyK P md ops Q C k fuel listed a w → wpAny P md ops Q fuel listed a w
  | 0, _, _, _, h => h
  | fuel + 1, _, _, _, h => ⟨h.1, fun i hi => wpOp_mono (fun a' w' h' => wpAny_of_K fuel _ a' w' h'.2) (h.2 i hi)⟩
theorem ready_waits {i : Nat} {oj : Oper} {listed : Array Bool} (hr : i ∈ Region.ready md ops listed) (hall : ∀ e ∈ oj.after, Region.binds md e = true → listed.getD e.on false = true) : ∀ e ∈ oj.after, Region.binds md e = true → e.on ≠ i := fun e he hb heq => by
  have h1 := hall e he hb
  have h0 := (mem_ready.1 hr).1
  rw [heq] at h1
  rcases Nat.lt_or_ge i listed.size with h' | h'
  · simp [h'] at h0 h1; rw [h0] at h1; cases h1
  · simp [Array.getElem?_eq_none h'] at h1
theorem wpAnyK_first {i : Nat} {oi : Oper} {v : Value} (hi : ops[i]? = some oi) (hsel : ∀ (j : Nat) (o : Oper) cs b, ops[j]? = some o → o.op ≠ .select cs b)
    (hQ : ∀ c a w, Q (.panic c) (a.put oi.dst v) w → Q (.panic c) a w) (hk : Region.waitsFor md ops k i = true) (hki : k ≠ i) :
    ∀ (fuel : Nat) (listed : Array Bool) (a : Act) (w : World),
      (∀ j oj, ops[j]? = some oj → j ≠ i → listed.getD j true = false → (∀ e ∈ oj.after, Region.binds md e = true → e.on ≠ i) → oi.apart ops oj = true) →
      i ∈ Region.ready md ops listed → listed.getD k false = false → YieldsIf P ops C oi v a → C w →
      wpAnyK P md ops Q C k fuel (listed.setIfInBounds i true) (a.put oi.dst v) w → wpAnyK P md ops Q C k (fuel + 1) listed a w := by
  intro fuel
  induction fuel with
  | zero =>
    intro listed a w _ hr hkl hy hS H
    refine ⟨fun h => (by rw [h] at hr; cases hr), fun j hj => ?_⟩
    by_cases hji : j = i
    · subst hji; exact hy.wpOp hi hS ⟨.inr hS, H⟩
    · have := ready_mono hj hji
      rw [H.1] at this
      cases this
  | succ fuel ih =>
    intro listed a w hfree hr hkl hy hS H
    refine ⟨fun h => (by rw [h] at hr; cases hr), fun j hj => ?_⟩
    by_cases hji : j = i
    · subst hji; exact hy.wpOp hi hS ⟨.inr hS, H⟩
    · have h1 := H.2 j (ready_mono hj hji)
      obtain ⟨hjun, oj, hoj, hall⟩ := mem_ready.1 hj
      have hnot := ready_waits (oj := oj) hr hall
      have hjk : k ≠ j := fun e => by
        subst e
        obtain ⟨ok, hok, e, he, hb, hon⟩ := Region.waitsFor_spec hk
        rw [hoj] at hok
        injection hok with hok
        subst hok
        exact hnot e he hb hon
      have h2 := wpOp_putIf hoj (hfree j oj hoj hji hjun hnot) (fun cs b => hsel i oi cs b hi) (fun cs b => hsel j oj cs b hoj) hQ hy h1
      have hfree' : ∀ k ok, ops[k]? = some ok → k ≠ i → (listed.setIfInBounds j true).getD k true = false →
          (∀ e ∈ ok.after, Region.binds md e = true → e.on ≠ i) → oi.apart ops ok = true := fun k ok hk hki hun hno => by
        refine hfree k ok hk hki ?_ hno
        by_cases hjk : j = k
        · subst hjk; exact hjun
        · rw [getD_set_ne true hjk] at hun; exact hun
      have hkl' : (listed.setIfInBounds j true).getD k false = false := by rw [getD_set_ne false (Ne.symm hjk)]; exact hkl
      refine wpOp_mono (fun a' w' h3 => ?_) h2
      have hC' : C w' := by
        rcases h3.2.1 with h | h
        · rw [getD_set_ne false (Ne.symm hjk), getD_set_ne false (Ne.symm hki), hkl] at h
          cases h
        · exact h
      refine ⟨.inr hC', ih (listed.setIfInBounds j true) a' w' hfree' (ready_mono hr (Ne.symm hji)) hkl' h3.1 hC' ?_⟩
      rw [Array.setIfInBounds_comm _ _ hji]
      exact h3.2.2
theorem wpAnyK_firstP {i : Nat} {oi : Oper} {v : Value} (hi : ops[i]? = some oi) (hsel : ∀ (j : Nat) (o : Oper) cs b, ops[j]? = some o → o.op ≠ .select cs b)
    (hQ : ∀ c a w, Q (.panic c) (a.put oi.dst v) w → Q (.panic c) a w) (hki : k ≠ i) :
    ∀ (fuel : Nat) (listed : Array Bool) (a : Act) (w : World),
      (∀ j oj, ops[j]? = some oj → j ≠ i → listed.getD j true = false → (∀ e ∈ oj.after, Region.binds md e = true → e.on ≠ i) → oi.apart ops oj = true) →
      i ∈ Region.ready md ops listed → (listed.getD k false = true ∨ C w) → YieldsIf P ops (fun _ => True) oi v a →
      wpAnyK P md ops Q C k fuel (listed.setIfInBounds i true) (a.put oi.dst v) w → wpAnyK P md ops Q C k (fuel + 1) listed a w := by
  intro fuel
  induction fuel with
  | zero =>
    intro listed a w _ hr hS hy H
    refine ⟨fun h => (by rw [h] at hr; cases hr), fun j hj => ?_⟩
    by_cases hji : j = i
    · subst hji; exact hy.wpOp hi trivial ⟨hS.imp (fun h => by rw [getD_set_ne false (Ne.symm hki)]; exact h) id, H⟩
    · have := ready_mono hj hji
      rw [H.1] at this
      cases this
  | succ fuel ih =>
    intro listed a w hfree hr hS hy H
    refine ⟨fun h => (by rw [h] at hr; cases hr), fun j hj => ?_⟩
    by_cases hji : j = i
    · subst hji; exact hy.wpOp hi trivial ⟨hS.imp (fun h => by rw [getD_set_ne false (Ne.symm hki)]; exact h) id, H⟩
    · have h1 := H.2 j (ready_mono hj hji)
      obtain ⟨hjun, oj, hoj, hall⟩ := mem_ready.1 hj
      have hnot := ready_waits (oj := oj) hr hall
      have h2 := wpOp_putIf hoj (hfree j oj hoj hji hjun hnot) (fun cs b => hsel i oi cs b hi) (fun cs b => hsel j oj cs b hoj) hQ hy h1
      have hfree' : ∀ k ok, ops[k]? = some ok → k ≠ i → (listed.setIfInBounds j true).getD k true = false →
          (∀ e ∈ ok.after, Region.binds md e = true → e.on ≠ i) → oi.apart ops ok = true := fun k ok hk hki hun hno => by
        refine hfree k ok hk hki ?_ hno
        by_cases hjk : j = k
        · subst hjk; exact hjun
        · rw [getD_set_ne true hjk] at hun; exact hun
      refine wpOp_mono (fun a' w' h3 => ?_) h2
      have hC' : (listed.setIfInBounds j true).getD k false = true ∨ C w' := by
        refine h3.2.1.imp (fun h => ?_) id
        rw [Array.setIfInBounds_comm _ _ (Ne.symm hji), getD_set_ne false (Ne.symm hki)] at h
        exact h
      refine ⟨hC', ih (listed.setIfInBounds j true) a' w' hfree' (ready_mono hr (Ne.symm hji)) hC' h3.1 ?_⟩
      rw [Array.setIfInBounds_comm _ _ hji]
      exact h3.2.2
theorem wpAnyK_take {i : Nat} {oi : Oper} {v : Value} {fuel : Nat} {listed : Array Bool} {a : Act} {w : World} (hi : ops[i]? = some oi)
    (hs : Region.noSelect ops = true) (hf : Region.free md ops listed i = true) (hr : (Region.ready md ops listed).contains i = true) (hk : Region.waitsFor md ops k i = true) (hki : k ≠ i) (hkl : listed.getD k false = false)
    (hQ : ∀ c a w, Q (.panic c) (a.put oi.dst v) w → Q (.panic c) a w) (hy : YieldsIf P ops C oi v a) (hS : C w)
    (h : wpAnyK P md ops Q C k fuel (listed.setIfInBounds i true) (a.put oi.dst v) w) : wpAnyK P md ops Q C k (fuel + 1) listed a w :=
  wpAnyK_first hi (Region.noSelect_spec hs) hQ hk hki fuel listed a w (Region.free_spec hi hf) (by simpa using hr) hkl hy hS h
theorem wpAnyK_pure {i : Nat} {oi : Oper} {v : Value} {fuel : Nat} {listed : Array Bool} {a : Act} {w : World} (hi : ops[i]? = some oi)
    (hs : Region.noSelect ops = true) (hf : Region.free md ops listed i = true) (hr : (Region.ready md ops listed).contains i = true) (hki : k ≠ i)
    (hQ : ∀ c a w, Q (.panic c) (a.put oi.dst v) w → Q (.panic c) a w) (hy : YieldsIf P ops (fun _ => True) oi v a) (hS : listed.getD k false = true ∨ C w)
    (h : wpAnyK P md ops Q C k fuel (listed.setIfInBounds i true) (a.put oi.dst v) w) : wpAnyK P md ops Q C k (fuel + 1) listed a w :=
  wpAnyK_firstP hi (Region.noSelect_spec hs) hQ hki fuel listed a w (Region.free_spec hi hf) (by simpa using hr) hS hy h
theorem wpAnyK_one {i : Nat} {o : Oper} {fuel : Nat} {listed : Array Bool} {a : Act} {w : World} (hr : Region.ready md ops listed = [i]) (ho : ops[i]? = some o)
    (h : ∀ K' : Act → World → Prop, Shut (∀ a w, ((listed.setIfInBounds i true).getD k false = true ∨ C w) → wpAnyK P md ops Q C k fuel (listed.setIfInBounds i true) a w → K' a w) → if Region.wanted o (yielded ops a.tmps) = true then Oper.wp P o a w K' Q else K' (a.put o.dst undef) w) :
    wpAnyK P md ops Q C k (fuel + 1) listed a w :=
  ⟨fun h0 => (by rw [hr] at h0; cases h0), fun j hj => by
    rw [hr] at hj
    obtain rfl : j = i := by simpa using hj
    exact wpOp_step ho (fun K' hK => h K' (fun a w hS hW => hK a w ⟨hS, hW⟩))⟩
theorem wpAnyK_done {listed : Array Bool} {a : Act} {w : World} (hr : Region.ready md ops listed = []) (h : Q .normal a w) :
    ∀ fuel, wpAnyK P md ops Q C k fuel listed a w
  | 0 => ⟨hr, h⟩
  | _ + 1 => ⟨fun _ => h, by rw [hr]; simp⟩
theorem wp_heldK {id : Nat} {K : Act → World → Prop} {a : Act} {w : World} (C : World → Prop) (k : Nat) (M : Act → World → Prop)
    (hm : P.follows .mixedOrders = true)
    (h : wpAnyK P .any ops (Runs M) C k ops.size (Array.replicate ops.size false) a w.drew) (h2 : ∀ a w, M a w → K a w) : (Code.region id ops true).wp P (Exit.then K Q) a w :=
  wp_mono (Q := Runs M) (wp_region_any hm (wpAny_of_K _ _ _ _ h)) (fun e a w h => by cases e <;> first | exact h2 _ _ h | exact False.elim h)
theorem wp_heldQ {id : Nat} {a : Act} {w : World} (C : World → Prop) (k : Nat) (hm : P.follows .mixedOrders = true)
    (h : wpAnyK P .any ops (Runs (Q .normal)) C k ops.size (Array.replicate ops.size false) a w.drew) : (Code.region id ops true).wp P Q a w :=
  wp_mono (Q := Runs (Q .normal)) (wp_region_any hm (wpAny_of_K _ _ _ _ h)) (fun e a w h => by cases e <;> first | exact h | exact False.elim h)
end

end Go.Proofs.Ytlfmmmgdilencaa
end

section
namespace Go.Proofs.Ytlfmmmgdilencaa
open Go.RowKit Go.Sort
set_option linter.unusedVariables false

def ltU (x y : Nat) : Bool := decide (x < y)
structure SU (W : World) (g off n : Nat) (d : Array Nat) (w : World) : Prop where
  size : d.size = n
  cell : ∀ i, i < n → w.cell? ⟨g, off + i, none⟩ = some (.int .u64 (d[i]! : Int))
  gr : W.grownBy w (some g)
  most : n < 4611686018427387904
  free : ∀ i, w.frozen? ⟨g, i, none⟩ = false
section
variable {W w w' : World} {g off n : Nat} {d : Array Nat}
theorem SU.drew (h : SU W g off n d w) : SU W g off n d w.drew := ⟨h.size, h.cell, ⟨h.gr.os, h.gr.tape, h.gr.output, h.gr.size, h.gr.block⟩, h.most, h.free⟩
theorem SU.start (hs : d.size = n) (hm : n < 4611686018427387904) (hc : ∀ i, i < n → w.cell? ⟨g, off + i, none⟩ = some (.int .u64 (d[i]! : Int))) (hf : ∀ i, w.frozen? ⟨g, i, none⟩ = false) : SU w g off n d w := ⟨hs, hc, World.grownBy.refl _ _, hm, hf⟩
theorem swp_get {d : Array Nat} {i j k : Nat} (hi : i < d.size) (hj : j < d.size) (hk : k < d.size) : (swp d i j)[k]! = if k = j then d[i]! else if k = i then d[j]! else d[k]! := by
  show ((d.setIfInBounds i d[j]!).setIfInBounds j d[i]!)[k]! = _
  rw [getElem!_pos ((d.setIfInBounds i d[j]!).setIfInBounds j d[i]!) k (by simpa using hk), Array.getElem_setIfInBounds (by simpa using hk)]
  by_cases e : j = k
  · subst e
    simp
  · rw [if_neg e, if_neg (Ne.symm e), Array.getElem_setIfInBounds hk]
    by_cases e2 : i = k
    · subst e2
      simp
    · rw [if_neg e2, if_neg (Ne.symm e2), getElem!_pos d k hk]
theorem SU.put (h : SU W g off n d w) {i : Nat} (hi : i < n) (u : Value) : (∀ k, k < n → k ≠ i → (w.setCell ⟨g, off + i, none⟩ u).cell? ⟨g, off + k, none⟩ = some (.int .u64 (d[k]! : Int))) ∧ (w.setCell ⟨g, off + i, none⟩ u).cell? ⟨g, off + i, none⟩ = some u :=
  ⟨fun k hk hne => (World.cell?_setCell_other _ _ _ _ (by intro e; injection e with _ e; omega)).trans (h.cell k hk), World.cell?_setCell_same _ _ _ (h.cell i hi)⟩
theorem SU.swap (h : SU W g off n d w) {i j : Nat} (hi : i < n) (hj : j < n) :
    SU W g off n (swp d i j) ((w.setCell ⟨g, off + i, none⟩ (.int .u64 (d[j]! : Int))).setCell ⟨g, off + j, none⟩ (.int .u64 (d[i]! : Int))) ∧ ∃ u, (w.setCell ⟨g, off + i, none⟩ (.int .u64 (d[j]! : Int))).cell? ⟨g, off + j, none⟩ = some u := by
  obtain ⟨h1, h2⟩ := h.put hi (.int .u64 (d[j]! : Int))
  have hex : ∃ u, (w.setCell ⟨g, off + i, none⟩ (.int .u64 (d[j]! : Int))).cell? ⟨g, off + j, none⟩ = some u := by
    by_cases e : j = i
    · subst e
      exact ⟨_, h2⟩
    · exact ⟨_, h1 j hj e⟩
  refine ⟨⟨by rw [← h.size]; simp [swp], fun k hk => ?_, ?_, h.most, fun k => by rw [World.frozen?_setCell, World.frozen?_setCell]; exact h.free k⟩, hex⟩
  · rw [swp_get (by rw [h.size]; exact hi) (by rw [h.size]; exact hj) (by rw [h.size]; exact hk)]
    by_cases e : k = j
    · subst e
      rw [if_pos rfl]
      exact World.cell?_setCell_same _ _ _ hex.choose_spec
    · rw [if_neg e]
      refine (World.cell?_setCell_other _ _ _ _ (by intro e2; injection e2 with _ e2; omega)).trans ?_
      by_cases e3 : k = i
      · subst e3
        rw [if_pos rfl]
        exact h2
      · rw [if_neg e3]
        exact h1 k hk e3
  · exact only_store (only_store h.gr _ _) _ _
end
def SUEnd (W : World) (g off n : Nat) (d : Array Nat) (e : Ending) (w' : World) : Prop := e = .returned (.tuple #[]) ∧ SU W g off n d w'
theorem isNaNU_any (x : Nat) (w : World) : Calls Try.prog 38 #[.int .u64 (x : Int)] w fun e w' => e = .returned (.bool false) ∧ w = w' := by
  go_enter Try.func38, Try.ntmps38
  go_wp2
  go_ret
  exact ⟨by simp, rfl⟩
theorem lessU_any (x y : Nat) (w : World) : Calls Try.prog 28 #[.int .u64 (x : Int), .int .u64 (y : Int)] w fun e w' => e = .returned (.bool (ltU x y)) ∧ w = w' := by
  have H1 := Lib.hid (fun x w => isNaNU_any x w)
  have hlt : decide ((x : Int) < (y : Int)) = ltU x y := decide_eq_decide.2 (by omega)
  go_enter Try.func28, Try.ntmps28
  go_wp2_with (go_at_call 38; (with_reducible refine (H1.out _ _).mono ?_); rintro e w' ⟨rfl, rfl⟩)
  go_ret
  exact ⟨by simp [ltU], rfl⟩
end Go.Proofs.Ytlfmmmgdilencaa
end
