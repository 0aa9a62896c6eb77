import Derived.Test.YtlfmmmgdilencaaJPid
/- Of a claim's texts, joined: Pie PiLeast. No statement but in the last. -/
section
namespace Go.Proofs.Ytlfmmmgdilencaa
open Go.RowKit
set_option linter.unusedVariables false

def lsTo (L vs : List Nat) : Nat → Nat × Bool
  | 0 => (0, false)
  | k + 1 => if vs.getD k 0 ∈ L ∧ ((lsTo L vs k).2 = false ∨ vs.getD k 0 < (lsTo L vs k).1) then (vs.getD k 0, true) else lsTo L vs k
def cntTo (L vs : List Nat) : Nat → Nat
  | 0 => 0
  | k + 1 => cntTo L vs k + if vs.getD k 0 ∈ L ∧ vs.getD k 0 ∉ vs.take k then 1 else 0
theorem lsTo_yes {L vs : List Nat} {k v : Nat} (hv : vs.getD k 0 = v) (hm : v ∈ L) (h : (lsTo L vs k).2 = false ∨ v < (lsTo L vs k).1) : lsTo L vs (k + 1) = (v, true) := by
  rw [lsTo, hv, if_pos ⟨hm, h⟩]
theorem lsTo_no {L vs : List Nat} {k v : Nat} (hv : vs.getD k 0 = v) (h : ¬ (v ∈ L ∧ ((lsTo L vs k).2 = false ∨ v < (lsTo L vs k).1))) : lsTo L vs (k + 1) = lsTo L vs k := by
  rw [lsTo, hv, if_neg h]
theorem cntTo_yes {L vs : List Nat} {k v : Nat} (hv : vs.getD k 0 = v) (hm : v ∈ L) (h : v ∉ vs.take k) : cntTo L vs (k + 1) = cntTo L vs k + 1 := by
  rw [cntTo, hv, if_pos ⟨hm, h⟩]
theorem cntTo_no {L vs : List Nat} {k v : Nat} (hv : vs.getD k 0 = v) (h : ¬ (v ∈ L ∧ v ∉ vs.take k)) : cntTo L vs (k + 1) = cntTo L vs k := by
  rw [cntTo, hv, if_neg h]
  rfl
theorem cntTo_le (L vs : List Nat) : ∀ k, cntTo L vs k ≤ k
  | 0 => Nat.le_refl _
  | k + 1 => by
    have := cntTo_le L vs k
    rw [cntTo]
    split <;> omega
theorem lsTo_spec (L vs : List Nat) : ∀ k, ((lsTo L vs k).2 = false → lsTo L vs k = (0, false) ∧ ∀ j, j < k → vs.getD j 0 ∉ L) ∧ ((lsTo L vs k).2 = true → (lsTo L vs k).1 ∈ L ∧ ∀ j, j < k → vs.getD j 0 ∈ L → (lsTo L vs k).1 ≤ vs.getD j 0)
  | 0 => ⟨fun _ => ⟨rfl, fun j hj => absurd hj (Nat.not_lt_zero j)⟩, fun h => by cases h⟩
  | k + 1 => by
    obtain ⟨h1, h2⟩ := lsTo_spec L vs k
    by_cases hc : vs.getD k 0 ∈ L ∧ ((lsTo L vs k).2 = false ∨ vs.getD k 0 < (lsTo L vs k).1)
    · rw [lsTo, if_pos hc]
      refine ⟨fun h => (by cases h), fun _ => ⟨hc.1, fun j hj hm => ?_⟩⟩
      show vs.getD k 0 ≤ vs.getD j 0
      by_cases e : j = k
      · rw [e]
        exact Nat.le_refl _
      · rcases hc.2 with h | h
        · exact absurd hm ((h1 h).2 j (by omega))
        · cases hb : (lsTo L vs k).2 with
          | false => exact absurd hm ((h1 hb).2 j (by omega))
          | true =>
            have := (h2 hb).2 j (by omega) hm
            omega
    · rw [lsTo, if_neg hc]
      refine ⟨fun h => ⟨(h1 h).1, fun j hj hm => ?_⟩, fun h => ⟨(h2 h).1, fun j hj hm => ?_⟩⟩
      · by_cases e : j = k
        · subst e
          exact hc ⟨hm, Or.inl h⟩
        · exact (h1 h).2 j (by omega) hm
      · by_cases e : j = k
        · subst e
          by_cases h3 : vs.getD j 0 < (lsTo L vs j).1
          · exact absurd ⟨hm, Or.inr h3⟩ hc
          · omega
        · exact (h2 h).2 j (by omega) hm
theorem getD_of_mem {vs : List Nat} {x : Nat} (h : x ∈ vs) : ∃ j, j < vs.length ∧ vs.getD j 0 = x := by
  obtain ⟨j, hj, e⟩ := List.mem_iff_getElem.1 h
  exact ⟨j, hj, by rw [List.getD_eq_getElem?_getD, List.getElem?_eq_getElem hj]; exact e⟩
theorem lsTo_all {L vs : List Nat} (hs : srtN L) (h : ∀ x ∈ L, x ∈ vs) : lsTo L vs vs.length = oldN L := by
  obtain ⟨h1, h2⟩ := lsTo_spec L vs vs.length
  rcases L with _ | ⟨x, t⟩
  · cases hb : (lsTo [] vs vs.length).2 with
    | false => exact (h1 hb).1
    | true => exact absurd (h2 hb).1 (by simp)
  · obtain ⟨j, hj, e⟩ := getD_of_mem (h x (by simp))
    cases hb : (lsTo (x :: t) vs vs.length).2 with
    | false => exact absurd (e ▸ List.mem_cons_self : vs.getD j 0 ∈ x :: t) ((h1 hb).2 j hj)
    | true =>
      obtain ⟨h3, h4⟩ := h2 hb
      have h5 := h4 j hj (by rw [e]; simp)
      rw [e] at h5
      have h6 := (old_least hs h3).1
      have h7 : (oldN (x :: t)).1 = x := rfl
      rw [h7] at h6
      have h8 : (lsTo (x :: t) vs vs.length).1 = x := Nat.le_antisymm h5 h6
      generalize lsTo (x :: t) vs vs.length = y at hb h8
      obtain ⟨a, b⟩ := y
      simp only at hb h8
      subst hb h8
      rfl
theorem countP_step {D t : List Nat} {y : Nat} (hn : D.Nodup) : D.countP (fun x => decide (x ∈ t ++ [y])) = D.countP (fun x => decide (x ∈ t)) + if y ∈ D ∧ y ∉ t then 1 else 0 := by
  induction D with
  | nil => rfl
  | cons a r ih =>
    have h1 := List.nodup_cons.1 hn
    rw [List.countP_cons, List.countP_cons, ih h1.2]
    by_cases e : a = y
    · subst e
      by_cases ht : a ∈ t
      · simp [ht]
      · simp [ht, h1.1]
    · by_cases ht : a ∈ t
      · simp [ht, Ne.symm e]
        omega
      · simp [ht, e, Ne.symm e]
theorem cntTo_countP {L vs : List Nat} (hs : srtN L) : ∀ k, k ≤ vs.length → cntTo L vs k = (allN L).countP (fun x => decide (x ∈ vs.take k))
  | 0, _ => by
    rw [cntTo, List.countP_eq_zero.2]
    simp
  | k + 1, hk => by
    have hkl : k < vs.length := hk
    have e : vs.getD k 0 = vs[k] := by rw [List.getD_eq_getElem?_getD, List.getElem?_eq_getElem hkl]; rfl
    rw [cntTo, cntTo_countP hs k (by omega), List.take_succ_eq_append_getElem hkl, countP_step (inc_nodup (allN_inc hs)), e]
    simp only [allN_mem]
theorem cntTo_all {L vs : List Nat} (hs : srtN L) (h : ∀ x ∈ L, x ∈ vs) : cntTo L vs vs.length = (allN L).length := by
  rw [cntTo_countP hs _ (Nat.le_refl _), List.take_length, List.countP_eq_length]
  intro x hx
  exact decide_eq_true (h x (allN_mem.1 hx))
end Go.Proofs.Ytlfmmmgdilencaa
end

section
namespace Go.Proofs.Ytlfmmmgdilencaa
open Go.RowKit
set_option linter.unusedVariables false

theorem vs_at {l : List (Int × Nat)} {k : Nat} (hk : k < l.length) : (l.map (·.2)).getD k 0 = l[k].2 := by
  rw [List.getD_eq_getElem?_getD, List.getElem?_map, List.getElem?_eq_getElem hk]
  rfl
theorem take_mem_succ {vs : List Nat} {k v x : Nat} (hk : k < vs.length) (hx : vs.getD k 0 = x) : v ∈ vs.take (k + 1) ↔ v ∈ vs.take k ∨ v = x := by
  have e : vs[k] = x := by rw [← hx, List.getD_eq_getElem?_getD, List.getElem?_eq_getElem hk]; rfl
  rw [List.take_succ_eq_append_getElem hk, List.mem_append, List.mem_singleton, e]
set_option maxRecDepth 100000 in
set_option maxHeartbeats 8000000 in
theorem walkPinsLeast (A : Option Addr) (n c : Nat) (l : List (Int × Nat)) (W : World) (h : StA12 W A n l) (hnI : n ≤ 9223372036854775807) :
    Calls Try.prog 5 #[.slice A n c] W fun e W' => e = .returned (.bool true) ∧ Below W.heap.size W W' := by
  have hmx : Try.prog.follows .mixedOrders = true := by kernel_rfl
  have HAW := Lib.hid (awake12_any W)
  by_cases hn : 60 < n
  · have hnI' : (60 : Int) < (n : Int) := by omega
    clear h
    go_enter Try.func5, Try.ntmps5
    go_wp2_with (go_at_call 6; (with_reducible refine HAW.out.mono ?_); rintro e w1 ⟨rfl, b1⟩; have B1 := Lib.hid b1; clear b1)
    go_ret
    exact ⟨rfl, B1.out⟩
  · have hn20 : ¬ (60 : Int) < (n : Int) := by omega
    have HNW := Lib.hid (fun w1 (b : Below W.heap.size W w1) => newS b)
    have HE0 : Hid (0 < n → ∃ b off, A = some ⟨b, off, none⟩ ∧ ∀ k x, l[k]? = some x → ∀ w5, Below W.heap.size W w5 → w5.cell? ⟨b, off + k * 2, none⟩ = some (.int .i64 x.1) ∧ w5.cell? ⟨b, off + k * 2 + 1, none⟩ = some (.int .u64 (x.2 : Int))) := Lib.hid (fun h0 => by
      obtain ⟨b, off, e, hlt, hc⟩ := h.reads h0
      exact ⟨b, off, e, fun k x hx w5 b5 => ⟨(b5.cell (p := ⟨b, off + k * 2, none⟩) hlt).trans (hc k x hx).1, (b5.cell (p := ⟨b, off + k * 2 + 1, none⟩) hlt).trans (hc k x hx).2⟩⟩)
    have HLN := Lib.hid h.len
    have HBG := Lib.hid h.big
    have HAT := Lib.hid (fun k (hk : k < l.length) => vs_at hk)
    have HTM := Lib.hid (fun k v x (hk : k < (l.map (·.2)).length) hx => take_mem_succ (v := v) (x := x) hk hx)
    have HVL : Hid ((l.map (·.2)).length = n) := Lib.hid (by rw [List.length_map]; exact h.len.symm)
    have HIN : Hid (∀ k (hk : k < l.length), l[k].2 ∈ l.map (·.2)) := Lib.hid (fun k hk => List.mem_map.2 ⟨l[k], List.getElem_mem hk, rfl⟩)
    obtain ⟨vs, hvs⟩ : ∃ vs, l.map (·.2) = vs := ⟨_, rfl⟩
    rw [hvs] at HAT HTM HVL HIN
    clear h hvs
    go_enter Try.func5, Try.ntmps5
    go_wp2_with (first
      | (go_at_call 6; (with_reducible refine HAW.out.mono ?_); rintro e w1 ⟨rfl, b1⟩; have B1 := Lib.hid b1; clear b1)
      | (go_at_call 7; (with_reducible refine (HNW.out _ B1.out).mono ?_); rintro e w2 ⟨P, mb, rfl, h2, _, _, _⟩; have X2 := Lib.hid h2; clear h2))
    go_loopw [5] (fun i wr => ∃ (k : Nat) (L : List Nat), k ≤ n ∧ i = .int .i64 (k : Int) ∧ PB W wr P mb L ∧ L.length ≤ k ∧ (∀ x ∈ L, x ∈ vs)) (fun i _ => n - (intOf i).toNat)
    case atStart => exact ⟨0, [], Nat.zero_le _, rfl, X2.out, Nat.le_refl _, fun x hx => by cases hx⟩
    case round =>
      obtain ⟨k, L, hk, rfl, hp, hL, hin⟩ := hrel
      have HP := Lib.hid hp
      have HI := Lib.hid hin
      clear hp hin
      by_cases hlt : k < n
      · obtain ⟨b, off, rfl, hel⟩ := HE0.out (by omega)
        have hkl : k < l.length := by rw [← HLN.out]; exact hlt
        have hel := hel k l[k] (List.getElem?_eq_getElem hkl)
        have hv := HBG.out _ (List.getElem_mem hkl)
        have hvi := HIN.out k hkl
        obtain ⟨kd, v, hyx⟩ : ∃ kd v, l[k] = (kd, v) := ⟨_, _, rfl⟩
        rw [hyx] at hel hv hvi
        simp only at hel hv hvi
        have HEL := Lib.hid hel
        obtain ⟨hc0, hc1⟩ := HEL.out wr HP.out.bel
        have hkI : (k : Int) < (n : Int) := by omega
        have hk0 : (0 : Int) ≤ (k : Int) := by omega
        have HVI := Lib.hid hvi
        clear hyx hkl hel hvi
        by_cases h0 : kd = 0
        · subst h0
          have HPI := Lib.hid (pinS v HP.out hv (by omega))
          clear hv
          go_wp2_with (go_at_call 8; (with_reducible refine HPI.out.mono ?_); rintro e w3 ⟨rfl, h3, _⟩; obtain ⟨d30, d31⟩ := HEL.out w3 h3.bel; have X3 := Lib.hid h3; clear h3)
          go_roundw
          case rel => exact ⟨k + 1, _, by omega, by go_num, X3.out, by rw [pinN_len]; omega, fun x hx => by rcases pinN_mem.1 hx with e | e; exact e ▸ HVI.out; exact HI.out x e⟩
          case measure => simp [intOf]; omega
        · by_cases h1 : kd = 1
          · subst h1
            by_cases hm : v ∈ L
            · obtain ⟨cv, hcv⟩ : ∃ cv, L.count v = cv + 1 := ⟨L.count v - 1, by have := List.count_pos_iff.2 hm; omega⟩
              have hce : (L.erase v).count v = cv := by rw [List.count_erase_self, hcv]; rfl
              have hcl : cv ≤ 60 := by have := List.count_le_length (a := v) (l := L); omega
              have hle : (L.erase v).length ≤ k := by have := List.length_erase_le (a := v) (l := L); omega
              have HE1 := Lib.hid (fun x (hx : x ∈ L.erase v) => HI.out x (List.mem_of_mem_erase hx))
              have HH1 : Hid (Calls Try.prog 14 #[.pointer (some ⟨P, 0, none⟩), .int .u64 (v : Int)] wr fun e w' => e = .returned (.int .i64 ((cv : Int) + 1)) ∧ Below wr.heap.size wr w') := Lib.hid (by
                have := piHeld_any v HP.out.pn hv (by omega)
                rw [hcv] at this
                exact this)
              have HUN : Hid (∀ w1, PB W w1 P mb L → Calls Try.prog 11 #[.pointer (some ⟨P, 0, none⟩), .int .u64 (v : Int)] w1 fun e w' => e = .returned (.bool true) ∧ PB W w' P mb (L.erase v)) := Lib.hid (fun w1 h => (unpinS v h hv (by omega)).mono (by
                rintro e w' ⟨rfl, h1, _⟩
                exact ⟨by simp [hm], h1⟩))
              have HH2 : Hid (∀ w1, PB W w1 P mb (L.erase v) → Calls Try.prog 14 #[.pointer (some ⟨P, 0, none⟩), .int .u64 (v : Int)] w1 fun e w' => e = .returned (.int .i64 (cv : Int)) ∧ Below w1.heap.size w1 w') := Lib.hid (fun w1 h => by
                have := piHeld_any v h.pn hv (by omega)
                rw [hce] at this
                exact this)
              have hc1' : (0 : Int) < (cv : Int) + 1 := by omega
              have hwc : IntKind.i64.wrap (cv : Int) = (cv : Int) := by rw [IntKind.wrap_i64]; omega
              have hwc2 : IntKind.i64.wrap ((cv : Int) + 1 - 1) = (cv : Int) := by rw [IntKind.wrap_i64]; omega
              clear hv hm hcv hce
              go_wp2_with (first
                | (go_at_call 14; (with_reducible refine HH1.out.mono ?_); rintro e w3 ⟨rfl, b3⟩; have X3 := Lib.hid (HP.out.below b3); obtain ⟨d30, d31⟩ := HEL.out w3 X3.out.bel; clear b3)
                | (go_at_call 11; (with_reducible refine (HUN.out _ X3.out).mono ?_); rintro e w4 ⟨rfl, h4⟩; obtain ⟨d40, d41⟩ := HEL.out w4 h4.bel; have X4 := Lib.hid h4; clear h4)
                | (go_at_call 14; (with_reducible refine (HH2.out _ X4.out).mono ?_); rintro e w5 ⟨rfl, b5⟩; have X5 := Lib.hid (X4.out.below b5); clear b5))
              go_roundw
              case rel => exact ⟨k + 1, _, by omega, by go_num, X5.out, by omega, HE1.out⟩
              case measure => simp [intOf]; omega
            · have hce : L.count v = 0 := count_none.2 hm
              have hee : L.erase v = L := List.erase_of_not_mem hm
              have HH1 : Hid (Calls Try.prog 14 #[.pointer (some ⟨P, 0, none⟩), .int .u64 (v : Int)] wr fun e w' => e = .returned (.int .i64 0) ∧ Below wr.heap.size wr w') := Lib.hid (by
                have := piHeld_any v HP.out.pn hv (by omega)
                rw [hce] at this
                exact this)
              have HUN : Hid (∀ w1, PB W w1 P mb L → Calls Try.prog 11 #[.pointer (some ⟨P, 0, none⟩), .int .u64 (v : Int)] w1 fun e w' => e = .returned (.bool false) ∧ PB W w' P mb L) := Lib.hid (fun w1 h => (unpinS v h hv (by omega)).mono (by
                rintro e w' ⟨rfl, h1, _⟩
                rw [hee] at h1
                exact ⟨by simp [hm], h1⟩))
              clear hv hm hce hee
              go_wp2_with (first
                | (go_at_call 14; (with_reducible refine HH1.out.mono ?_); rintro e w3 ⟨rfl, b3⟩; have X3 := Lib.hid (HP.out.below b3); obtain ⟨d30, d31⟩ := HEL.out w3 X3.out.bel; clear b3)
                | (go_at_call 11; (with_reducible refine (HUN.out _ X3.out).mono ?_); rintro e w4 ⟨rfl, h4⟩; obtain ⟨d40, d41⟩ := HEL.out w4 h4.bel; have X4 := Lib.hid h4; clear h4))
              go_roundw
              case rel => exact ⟨k + 1, _, by omega, by go_num, X4.out, by omega, HI.out⟩
              case measure => simp [intOf]; omega
          · have he0 : (kd == 0) = false := by simpa using h0
            have he1 : (kd == 1) = false := by simpa using h1
            clear hv
            go_wp2
            go_roundw
            case rel => exact ⟨k + 1, _, by omega, by go_num, HP.out, by omega, HI.out⟩
            case measure => simp [intOf]; omega
      · obtain rfl : k = n := by omega
        have hltI : ¬ (k : Int) < (k : Int) := by omega
        have HSR := Lib.hid HP.out.pn.srt
        obtain ⟨wA, hwA⟩ : ∃ wA : World, wA = wr := ⟨_, rfl⟩
        subst hwA
        go_wp2
        go_loopw [8, 9, 10, 11] (fun a b q i wr => ∃ (j : Nat), j ≤ k ∧ i = .int .i64 (j : Int) ∧ a = .int .u64 ((lsTo L vs j).1 : Int) ∧ b = .bool (lsTo L vs j).2 ∧ q = .int .i64 (cntTo L vs j : Int) ∧ PB W wr P mb L) (fun _ _ _ i _ => k - (intOf i).toNat)
        case atStart => exact ⟨0, Nat.zero_le _, rfl, rfl, rfl, rfl, HP.out⟩
        case round =>
          obtain ⟨j, hj, rfl, rfl, rfl, rfl, hp⟩ := hrel
          have X := Lib.hid hp
          clear hp
          obtain ⟨⟨la, lb⟩, hab⟩ : ∃ o, lsTo L vs j = o := ⟨_, rfl⟩
          obtain ⟨q, hq⟩ : ∃ q, cntTo L vs j = q := ⟨_, rfl⟩
          have hqj := cntTo_le L vs j
          rw [hq] at hqj
          have HAB := Lib.hid hab
          have HQ := Lib.hid hq
          rw [hab, hq]
          clear hab hq
          by_cases hlt : j < k
          · obtain ⟨b, off, rfl, hel⟩ := HE0.out (by omega)
            have hjl : j < l.length := by rw [← HLN.out]; exact hlt
            have hat := HAT.out j hjl
            have hv := HBG.out _ (List.getElem_mem hjl)
            obtain ⟨kd, v, hyx⟩ : ∃ kd v, l[j] = (kd, v) := ⟨_, _, rfl⟩
            have HEL : Hid (∀ w5, Below W.heap.size W w5 → w5.cell? ⟨b, off + j * 2 + 1, none⟩ = some (.int .u64 (v : Int))) := Lib.hid (fun w5 b5 => by have := (hel j l[j] (List.getElem?_eq_getElem hjl) w5 b5).2; rw [hyx] at this; exact this)
            rw [hyx] at hat hv
            simp only at hat hv
            have HAJ := Lib.hid hat
            have hc1 := HEL.out wr X.out.bel
            have HEI : Hid (∀ i, i < j → ∃ u, vs.getD i 0 = u ∧ ∀ w5, Below W.heap.size W w5 → w5.cell? ⟨b, off + i * 2 + 1, none⟩ = some (.int .u64 (u : Int))) := Lib.hid (fun i hi => by
              have hil : i < l.length := by omega
              exact ⟨l[i].2, HAT.out i hil, fun w5 b5 => (hel i l[i] (List.getElem?_eq_getElem hil) w5 b5).2⟩)
            have HCV := Lib.hid (fun w1 (h : PB W w1 P mb L) => piHeld_any v h.pn hv (by omega))
            have hjI : (j : Int) < (k : Int) := by omega
            have hj0 : (0 : Int) ≤ (j : Int) := by omega
            clear hyx hjl hel hat hv
            by_cases hm : v ∈ L
            · obtain ⟨cv, hcv⟩ : ∃ cv, L.count v = cv + 1 := ⟨L.count v - 1, by have := List.count_pos_iff.2 hm; omega⟩
              have HHE : Hid (∀ w1, PB W w1 P mb L → Calls Try.prog 14 #[.pointer (some ⟨P, 0, none⟩), .int .u64 (v : Int)] w1 fun e w' => e = .returned (.int .i64 ((cv : Int) + 1)) ∧ Below w1.heap.size w1 w') := Lib.hid (fun w1 h => by
                have := HCV.out w1 h
                rw [hcv] at this
                exact this)
              have hcg : (0 : Int) < (cv : Int) + 1 := by omega
              clear HCV hcv
              have HM := Lib.hid hm
              clear hm
              cases lb with
              | false =>
                have HLS : Hid (lsTo L vs (j + 1) = (v, true)) := Lib.hid (lsTo_yes HAJ.out HM.out (Or.inl (by rw [HAB.out])))
                go_wp2_with (go_at_call 14; (with_reducible refine (HHE.out _ X.out).mono ?_); rintro e w3 ⟨rfl, b3⟩; have X3 := Lib.hid (X.out.below b3); clear b3)
                obtain ⟨wB, hwB⟩ : ∃ wB : World, wB = wr := ⟨_, rfl⟩
                subst hwB
                go_loopw [13, 14] (fun f i wr => ∃ (i2 : Nat) (fb : Bool), i2 ≤ j ∧ i = .int .i64 (i2 : Int) ∧ f = .bool fb ∧ (fb = true ↔ v ∉ vs.take i2) ∧ PB W wr P mb L) (fun _ i _ => j - (intOf i).toNat)
                case atStart => exact ⟨0, true, Nat.zero_le _, rfl, rfl, by simp, X3.out⟩
                case round =>
                  obtain ⟨i2, fb, hi2, rfl, rfl, hf, hp⟩ := hrel
                  have X5 := Lib.hid hp
                  have HF := Lib.hid hf
                  clear hp hf
                  by_cases hlt2 : i2 < j
                  · obtain ⟨u, hu, huc⟩ := HEI.out i2 hlt2
                    have HTS := Lib.hid (HTM.out i2 v u (by rw [HVL.out]; omega) hu)
                    have hcu := huc wr X5.out.bel
                    have hi2I : (i2 : Int) < (j : Int) := by omega
                    have hi2k : (i2 : Int) < (k : Int) := by omega
                    have hi20 : (0 : Int) ≤ (i2 : Int) := by omega
                    clear hu huc
                    cases fb with
                    | false =>
                      go_wp2
                      go_roundw
                      case rel => exact ⟨i2 + 1, false, by omega, by go_num, rfl, by have h1 := HF.out; have h2 := HTS.out; constructor; intro h; cases h; intro h; rw [h2] at h; exact absurd (h1.2 (fun h3 => h (Or.inl h3))) (by simp), X5.out⟩
                      case measure => simp [intOf]; omega
                    | true =>
                      by_cases huv : u = v
                      · have hne : ((u : Int) != (v : Int)) = false := by simp; omega
                        have HUV := Lib.hid huv
                        clear huv
                        go_wp2
                        go_roundw
                        case rel => exact ⟨i2 + 1, false, by omega, by go_num, rfl, by have h2 := HTS.out; constructor; intro h; cases h; intro h; rw [h2] at h; exact absurd (Or.inr HUV.out.symm) h, X5.out⟩
                        case measure => simp [intOf]; omega
                      · have hne : ((u : Int) != (v : Int)) = true := by simp; omega
                        have HUV := Lib.hid huv
                        clear huv
                        go_wp2
                        go_roundw
                        case rel => exact ⟨i2 + 1, true, by omega, by go_num, rfl, by have h1 := HF.out; have h2 := HTS.out; refine ⟨fun _ h => ?_, fun _ => rfl⟩; rw [h2] at h; rcases h with h | h; exact h1.1 rfl h; exact HUV.out h.symm, X5.out⟩
                        case measure => simp [intOf]; omega
                  · obtain rfl : i2 = j := by omega
                    have hltI3 : ¬ (i2 : Int) < (i2 : Int) := by omega
                    cases fb with
                    | false =>
                      have hcn : cntTo L vs (i2 + 1) = q := by rw [cntTo_no HAJ.out (fun h => by have := HF.out.2 h.2; cases this), HQ.out]
                      have HCN := Lib.hid hcn
                      clear hcn
                      go_wp2
                      go_roundw
                      case rel => exact ⟨i2 + 1, by omega, by go_num, by rw [HLS.out], by rw [HLS.out], by rw [HCN.out], X5.out⟩
                      case measure => simp [intOf]; omega
                    | true =>
                      have hcn : cntTo L vs (i2 + 1) = q + 1 := by rw [cntTo_yes HAJ.out HM.out (HF.out.1 rfl), HQ.out]
                      have HCN := Lib.hid hcn
                      clear hcn
                      go_wp2_with (go_at_call 14; (with_reducible refine (HHE.out _ X5.out).mono ?_); rintro e w6 ⟨rfl, b6⟩; have X6 := Lib.hid (X5.out.below b6); clear b6)
                      go_roundw
                      case rel => exact ⟨i2 + 1, by omega, by go_num, by rw [HLS.out], by rw [HLS.out], by rw [HCN.out]; go_num, X6.out⟩
                      case measure => simp [intOf]; omega
              | true =>
                by_cases hl : v < la
                · have hlI : (v : Int) < (la : Int) := by omega
                  have HLS : Hid (lsTo L vs (j + 1) = (v, true)) := Lib.hid (lsTo_yes HAJ.out HM.out (Or.inr (by rw [HAB.out]; exact hl)))
                  clear hl
                  go_wp2_with (go_at_call 14; (with_reducible refine (HHE.out _ X.out).mono ?_); rintro e w3 ⟨rfl, b3⟩; have X3 := Lib.hid (X.out.below b3); clear b3)
                  obtain ⟨wB, hwB⟩ : ∃ wB : World, wB = wr := ⟨_, rfl⟩
                  subst hwB
                  go_loopw [13, 14] (fun f i wr => ∃ (i2 : Nat) (fb : Bool), i2 ≤ j ∧ i = .int .i64 (i2 : Int) ∧ f = .bool fb ∧ (fb = true ↔ v ∉ vs.take i2) ∧ PB W wr P mb L) (fun _ i _ => j - (intOf i).toNat)
                  case atStart => exact ⟨0, true, Nat.zero_le _, rfl, rfl, by simp, X3.out⟩
                  case round =>
                    obtain ⟨i2, fb, hi2, rfl, rfl, hf, hp⟩ := hrel
                    have X5 := Lib.hid hp
                    have HF := Lib.hid hf
                    clear hp hf
                    by_cases hlt2 : i2 < j
                    · obtain ⟨u, hu, huc⟩ := HEI.out i2 hlt2
                      have HTS := Lib.hid (HTM.out i2 v u (by rw [HVL.out]; omega) hu)
                      have hcu := huc wr X5.out.bel
                      have hi2I : (i2 : Int) < (j : Int) := by omega
                      have hi2k : (i2 : Int) < (k : Int) := by omega
                      have hi20 : (0 : Int) ≤ (i2 : Int) := by omega
                      clear hu huc
                      cases fb with
                      | false =>
                        go_wp2
                        go_roundw
                        case rel => exact ⟨i2 + 1, false, by omega, by go_num, rfl, by have h1 := HF.out; have h2 := HTS.out; constructor; intro h; cases h; intro h; rw [h2] at h; exact absurd (h1.2 (fun h3 => h (Or.inl h3))) (by simp), X5.out⟩
                        case measure => simp [intOf]; omega
                      | true =>
                        by_cases huv : u = v
                        · have hne : ((u : Int) != (v : Int)) = false := by simp; omega
                          have HUV := Lib.hid huv
                          clear huv
                          go_wp2
                          go_roundw
                          case rel => exact ⟨i2 + 1, false, by omega, by go_num, rfl, by have h2 := HTS.out; constructor; intro h; cases h; intro h; rw [h2] at h; exact absurd (Or.inr HUV.out.symm) h, X5.out⟩
                          case measure => simp [intOf]; omega
                        · have hne : ((u : Int) != (v : Int)) = true := by simp; omega
                          have HUV := Lib.hid huv
                          clear huv
                          go_wp2
                          go_roundw
                          case rel => exact ⟨i2 + 1, true, by omega, by go_num, rfl, by have h1 := HF.out; have h2 := HTS.out; refine ⟨fun _ h => ?_, fun _ => rfl⟩; rw [h2] at h; rcases h with h | h; exact h1.1 rfl h; exact HUV.out h.symm, X5.out⟩
                          case measure => simp [intOf]; omega
                    · obtain rfl : i2 = j := by omega
                      have hltI3 : ¬ (i2 : Int) < (i2 : Int) := by omega
                      cases fb with
                      | false =>
                        have hcn : cntTo L vs (i2 + 1) = q := by rw [cntTo_no HAJ.out (fun h => by have := HF.out.2 h.2; cases this), HQ.out]
                        have HCN := Lib.hid hcn
                        clear hcn
                        go_wp2
                        go_roundw
                        case rel => exact ⟨i2 + 1, by omega, by go_num, by rw [HLS.out], by rw [HLS.out], by rw [HCN.out], X5.out⟩
                        case measure => simp [intOf]; omega
                      | true =>
                        have hcn : cntTo L vs (i2 + 1) = q + 1 := by rw [cntTo_yes HAJ.out HM.out (HF.out.1 rfl), HQ.out]
                        have HCN := Lib.hid hcn
                        clear hcn
                        go_wp2_with (go_at_call 14; (with_reducible refine (HHE.out _ X5.out).mono ?_); rintro e w6 ⟨rfl, b6⟩; have X6 := Lib.hid (X5.out.below b6); clear b6)
                        go_roundw
                        case rel => exact ⟨i2 + 1, by omega, by go_num, by rw [HLS.out], by rw [HLS.out], by rw [HCN.out]; go_num, X6.out⟩
                        case measure => simp [intOf]; omega
                · have hlI : ¬ (v : Int) < (la : Int) := by omega
                  have HLS : Hid (lsTo L vs (j + 1) = (la, true)) := Lib.hid (by rw [lsTo_no HAJ.out (by rw [HAB.out]; rintro ⟨_, h | h⟩; cases h; exact hl h), HAB.out])
                  clear hl
                  go_wp2_with (go_at_call 14; (with_reducible refine (HHE.out _ X.out).mono ?_); rintro e w3 ⟨rfl, b3⟩; have X3 := Lib.hid (X.out.below b3); clear b3)
                  obtain ⟨wB, hwB⟩ : ∃ wB : World, wB = wr := ⟨_, rfl⟩
                  subst hwB
                  go_loopw [13, 14] (fun f i wr => ∃ (i2 : Nat) (fb : Bool), i2 ≤ j ∧ i = .int .i64 (i2 : Int) ∧ f = .bool fb ∧ (fb = true ↔ v ∉ vs.take i2) ∧ PB W wr P mb L) (fun _ i _ => j - (intOf i).toNat)
                  case atStart => exact ⟨0, true, Nat.zero_le _, rfl, rfl, by simp, X3.out⟩
                  case round =>
                    obtain ⟨i2, fb, hi2, rfl, rfl, hf, hp⟩ := hrel
                    have X5 := Lib.hid hp
                    have HF := Lib.hid hf
                    clear hp hf
                    by_cases hlt2 : i2 < j
                    · obtain ⟨u, hu, huc⟩ := HEI.out i2 hlt2
                      have HTS := Lib.hid (HTM.out i2 v u (by rw [HVL.out]; omega) hu)
                      have hcu := huc wr X5.out.bel
                      have hi2I : (i2 : Int) < (j : Int) := by omega
                      have hi2k : (i2 : Int) < (k : Int) := by omega
                      have hi20 : (0 : Int) ≤ (i2 : Int) := by omega
                      clear hu huc
                      cases fb with
                      | false =>
                        go_wp2
                        go_roundw
                        case rel => exact ⟨i2 + 1, false, by omega, by go_num, rfl, by have h1 := HF.out; have h2 := HTS.out; constructor; intro h; cases h; intro h; rw [h2] at h; exact absurd (h1.2 (fun h3 => h (Or.inl h3))) (by simp), X5.out⟩
                        case measure => simp [intOf]; omega
                      | true =>
                        by_cases huv : u = v
                        · have hne : ((u : Int) != (v : Int)) = false := by simp; omega
                          have HUV := Lib.hid huv
                          clear huv
                          go_wp2
                          go_roundw
                          case rel => exact ⟨i2 + 1, false, by omega, by go_num, rfl, by have h2 := HTS.out; constructor; intro h; cases h; intro h; rw [h2] at h; exact absurd (Or.inr HUV.out.symm) h, X5.out⟩
                          case measure => simp [intOf]; omega
                        · have hne : ((u : Int) != (v : Int)) = true := by simp; omega
                          have HUV := Lib.hid huv
                          clear huv
                          go_wp2
                          go_roundw
                          case rel => exact ⟨i2 + 1, true, by omega, by go_num, rfl, by have h1 := HF.out; have h2 := HTS.out; refine ⟨fun _ h => ?_, fun _ => rfl⟩; rw [h2] at h; rcases h with h | h; exact h1.1 rfl h; exact HUV.out h.symm, X5.out⟩
                          case measure => simp [intOf]; omega
                    · obtain rfl : i2 = j := by omega
                      have hltI3 : ¬ (i2 : Int) < (i2 : Int) := by omega
                      cases fb with
                      | false =>
                        have hcn : cntTo L vs (i2 + 1) = q := by rw [cntTo_no HAJ.out (fun h => by have := HF.out.2 h.2; cases this), HQ.out]
                        have HCN := Lib.hid hcn
                        clear hcn
                        go_wp2
                        go_roundw
                        case rel => exact ⟨i2 + 1, by omega, by go_num, by rw [HLS.out], by rw [HLS.out], by rw [HCN.out], X5.out⟩
                        case measure => simp [intOf]; omega
                      | true =>
                        have hcn : cntTo L vs (i2 + 1) = q + 1 := by rw [cntTo_yes HAJ.out HM.out (HF.out.1 rfl), HQ.out]
                        have HCN := Lib.hid hcn
                        clear hcn
                        go_wp2_with (go_at_call 14; (with_reducible refine (HHE.out _ X5.out).mono ?_); rintro e w6 ⟨rfl, b6⟩; have X6 := Lib.hid (X5.out.below b6); clear b6)
                        go_roundw
                        case rel => exact ⟨i2 + 1, by omega, by go_num, by rw [HLS.out], by rw [HLS.out], by rw [HCN.out]; go_num, X6.out⟩
                        case measure => simp [intOf]; omega
            · have HHE : Hid (∀ w1, PB W w1 P mb L → Calls Try.prog 14 #[.pointer (some ⟨P, 0, none⟩), .int .u64 (v : Int)] w1 fun e w' => e = .returned (.int .i64 0) ∧ Below w1.heap.size w1 w') := Lib.hid (fun w1 h => by
                have := HCV.out w1 h
                rw [count_none.2 hm] at this
                exact this)
              clear HCV
              have HM := Lib.hid hm
              clear hm
              cases lb with
              | false =>
                have HLS : Hid (lsTo L vs (j + 1) = (la, false)) := Lib.hid (by rw [lsTo_no HAJ.out (fun h => HM.out h.1), HAB.out])
                go_wp2_with (go_at_call 14; (with_reducible refine (HHE.out _ X.out).mono ?_); rintro e w3 ⟨rfl, b3⟩; have X3 := Lib.hid (X.out.below b3); clear b3)
                obtain ⟨wB, hwB⟩ : ∃ wB : World, wB = wr := ⟨_, rfl⟩
                subst hwB
                go_loopw [13, 14] (fun f i wr => ∃ (i2 : Nat) (fb : Bool), i2 ≤ j ∧ i = .int .i64 (i2 : Int) ∧ f = .bool fb ∧ (fb = true ↔ v ∉ vs.take i2) ∧ PB W wr P mb L) (fun _ i _ => j - (intOf i).toNat)
                case atStart => exact ⟨0, true, Nat.zero_le _, rfl, rfl, by simp, X3.out⟩
                case round =>
                  obtain ⟨i2, fb, hi2, rfl, rfl, hf, hp⟩ := hrel
                  have X5 := Lib.hid hp
                  have HF := Lib.hid hf
                  clear hp hf
                  by_cases hlt2 : i2 < j
                  · obtain ⟨u, hu, huc⟩ := HEI.out i2 hlt2
                    have HTS := Lib.hid (HTM.out i2 v u (by rw [HVL.out]; omega) hu)
                    have hcu := huc wr X5.out.bel
                    have hi2I : (i2 : Int) < (j : Int) := by omega
                    have hi2k : (i2 : Int) < (k : Int) := by omega
                    have hi20 : (0 : Int) ≤ (i2 : Int) := by omega
                    clear hu huc
                    cases fb with
                    | false =>
                      go_wp2
                      go_roundw
                      case rel => exact ⟨i2 + 1, false, by omega, by go_num, rfl, by have h1 := HF.out; have h2 := HTS.out; constructor; intro h; cases h; intro h; rw [h2] at h; exact absurd (h1.2 (fun h3 => h (Or.inl h3))) (by simp), X5.out⟩
                      case measure => simp [intOf]; omega
                    | true =>
                      by_cases huv : u = v
                      · have hne : ((u : Int) != (v : Int)) = false := by simp; omega
                        have HUV := Lib.hid huv
                        clear huv
                        go_wp2
                        go_roundw
                        case rel => exact ⟨i2 + 1, false, by omega, by go_num, rfl, by have h2 := HTS.out; constructor; intro h; cases h; intro h; rw [h2] at h; exact absurd (Or.inr HUV.out.symm) h, X5.out⟩
                        case measure => simp [intOf]; omega
                      · have hne : ((u : Int) != (v : Int)) = true := by simp; omega
                        have HUV := Lib.hid huv
                        clear huv
                        go_wp2
                        go_roundw
                        case rel => exact ⟨i2 + 1, true, by omega, by go_num, rfl, by have h1 := HF.out; have h2 := HTS.out; refine ⟨fun _ h => ?_, fun _ => rfl⟩; rw [h2] at h; rcases h with h | h; exact h1.1 rfl h; exact HUV.out h.symm, X5.out⟩
                        case measure => simp [intOf]; omega
                  · obtain rfl : i2 = j := by omega
                    have hltI3 : ¬ (i2 : Int) < (i2 : Int) := by omega
                    cases fb with
                    | false =>
                      have hcn : cntTo L vs (i2 + 1) = q := by rw [cntTo_no HAJ.out (fun h => by have := HF.out.2 h.2; cases this), HQ.out]
                      have HCN := Lib.hid hcn
                      clear hcn
                      go_wp2
                      go_roundw
                      case rel => exact ⟨i2 + 1, by omega, by go_num, by rw [HLS.out], by rw [HLS.out], by rw [HCN.out], X5.out⟩
                      case measure => simp [intOf]; omega
                    | true =>
                      have hcn : cntTo L vs (i2 + 1) = q := by rw [cntTo_no HAJ.out (fun h => HM.out h.1), HQ.out]
                      have HCN := Lib.hid hcn
                      clear hcn
                      go_wp2_with (go_at_call 14; (with_reducible refine (HHE.out _ X5.out).mono ?_); rintro e w6 ⟨rfl, b6⟩; have X6 := Lib.hid (X5.out.below b6); clear b6)
                      go_roundw
                      case rel => exact ⟨i2 + 1, by omega, by go_num, by rw [HLS.out], by rw [HLS.out], by rw [HCN.out], X6.out⟩
                      case measure => simp [intOf]; omega
              | true =>
                have HLS : Hid (lsTo L vs (j + 1) = (la, true)) := Lib.hid (by rw [lsTo_no HAJ.out (fun h => HM.out h.1), HAB.out])
                go_wp2_with (go_at_call 14; (with_reducible refine (HHE.out _ X.out).mono ?_); rintro e w3 ⟨rfl, b3⟩; have X3 := Lib.hid (X.out.below b3); clear b3)
                obtain ⟨wB, hwB⟩ : ∃ wB : World, wB = wr := ⟨_, rfl⟩
                subst hwB
                go_loopw [13, 14] (fun f i wr => ∃ (i2 : Nat) (fb : Bool), i2 ≤ j ∧ i = .int .i64 (i2 : Int) ∧ f = .bool fb ∧ (fb = true ↔ v ∉ vs.take i2) ∧ PB W wr P mb L) (fun _ i _ => j - (intOf i).toNat)
                case atStart => exact ⟨0, true, Nat.zero_le _, rfl, rfl, by simp, X3.out⟩
                case round =>
                  obtain ⟨i2, fb, hi2, rfl, rfl, hf, hp⟩ := hrel
                  have X5 := Lib.hid hp
                  have HF := Lib.hid hf
                  clear hp hf
                  by_cases hlt2 : i2 < j
                  · obtain ⟨u, hu, huc⟩ := HEI.out i2 hlt2
                    have HTS := Lib.hid (HTM.out i2 v u (by rw [HVL.out]; omega) hu)
                    have hcu := huc wr X5.out.bel
                    have hi2I : (i2 : Int) < (j : Int) := by omega
                    have hi2k : (i2 : Int) < (k : Int) := by omega
                    have hi20 : (0 : Int) ≤ (i2 : Int) := by omega
                    clear hu huc
                    cases fb with
                    | false =>
                      go_wp2
                      go_roundw
                      case rel => exact ⟨i2 + 1, false, by omega, by go_num, rfl, by have h1 := HF.out; have h2 := HTS.out; constructor; intro h; cases h; intro h; rw [h2] at h; exact absurd (h1.2 (fun h3 => h (Or.inl h3))) (by simp), X5.out⟩
                      case measure => simp [intOf]; omega
                    | true =>
                      by_cases huv : u = v
                      · have hne : ((u : Int) != (v : Int)) = false := by simp; omega
                        have HUV := Lib.hid huv
                        clear huv
                        go_wp2
                        go_roundw
                        case rel => exact ⟨i2 + 1, false, by omega, by go_num, rfl, by have h2 := HTS.out; constructor; intro h; cases h; intro h; rw [h2] at h; exact absurd (Or.inr HUV.out.symm) h, X5.out⟩
                        case measure => simp [intOf]; omega
                      · have hne : ((u : Int) != (v : Int)) = true := by simp; omega
                        have HUV := Lib.hid huv
                        clear huv
                        go_wp2
                        go_roundw
                        case rel => exact ⟨i2 + 1, true, by omega, by go_num, rfl, by have h1 := HF.out; have h2 := HTS.out; refine ⟨fun _ h => ?_, fun _ => rfl⟩; rw [h2] at h; rcases h with h | h; exact h1.1 rfl h; exact HUV.out h.symm, X5.out⟩
                        case measure => simp [intOf]; omega
                  · obtain rfl : i2 = j := by omega
                    have hltI3 : ¬ (i2 : Int) < (i2 : Int) := by omega
                    cases fb with
                    | false =>
                      have hcn : cntTo L vs (i2 + 1) = q := by rw [cntTo_no HAJ.out (fun h => by have := HF.out.2 h.2; cases this), HQ.out]
                      have HCN := Lib.hid hcn
                      clear hcn
                      go_wp2
                      go_roundw
                      case rel => exact ⟨i2 + 1, by omega, by go_num, by rw [HLS.out], by rw [HLS.out], by rw [HCN.out], X5.out⟩
                      case measure => simp [intOf]; omega
                    | true =>
                      have hcn : cntTo L vs (i2 + 1) = q := by rw [cntTo_no HAJ.out (fun h => HM.out h.1), HQ.out]
                      have HCN := Lib.hid hcn
                      clear hcn
                      go_wp2_with (go_at_call 14; (with_reducible refine (HHE.out _ X5.out).mono ?_); rintro e w6 ⟨rfl, b6⟩; have X6 := Lib.hid (X5.out.below b6); clear b6)
                      go_roundw
                      case rel => exact ⟨i2 + 1, by omega, by go_num, by rw [HLS.out], by rw [HLS.out], by rw [HCN.out], X6.out⟩
                      case measure => simp [intOf]; omega
          · obtain rfl : j = k := by omega
            have hltI2 : ¬ (j : Int) < (j : Int) := by omega
            have hol := lsTo_all HSR.out HI.out
            have hca := cntTo_all HSR.out HI.out
            rw [HVL.out, HAB.out] at hol
            rw [HVL.out, HQ.out] at hca
            have HOL : Hid (∀ w1, PB W w1 P mb L → Calls Try.prog 12 #[.pointer (some ⟨P, 0, none⟩)] w1 fun e w' => e = .returned (.tuple #[.int .u64 (la : Int), .bool lb]) ∧ Below w1.heap.size w1 w') := Lib.hid (fun w1 h => by have := piOldest_any h.pn (by omega); rw [← hol] at this; exact this)
            have HAL : Hid (∀ w1, PB W w1 P mb L → Calls Try.prog 17 #[.pointer (some ⟨P, 0, none⟩)] w1 fun e w' => ∃ A c, e = .returned (.slice A q c) ∧ Below w1.heap.size w1 w') := Lib.hid (fun w1 h => (piAll_any h.pn (by omega)).mono (by
              rintro e w' ⟨A', n', c', rfl, h1, h2⟩
              have := h1.arg.len
              obtain rfl : n' = q := by omega
              exact ⟨A', c', rfl, h2⟩))
            clear hol hca
            cases lb <;> (
              go_wp2_with (first
                | (go_at_call 12; (with_reducible refine (HOL.out _ X.out).mono ?_); rintro e w3 ⟨rfl, b3⟩; have X3 := Lib.hid (X.out.below b3); clear b3)
                | (go_at_call 17; (with_reducible refine (HAL.out _ X3.out).mono ?_); rintro e w4 ⟨A4, c4, rfl, b4⟩; have X4 := Lib.hid (X3.out.below b4); clear b4))
              go_ret
              exact ⟨rfl, X4.out.bel⟩)
end Go.Proofs.Ytlfmmmgdilencaa
end
