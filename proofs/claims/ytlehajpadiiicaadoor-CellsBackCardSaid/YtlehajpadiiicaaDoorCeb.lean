/- Cells cut out of a page: the contract of cut; no statement. Written by gen/ceb.py. -/
import Derived.Test.YtlehajpadiiicaaDoorCea
namespace Go.Proofs.YtlehajpadiiicaaDoor
open Go.RowKit
set_option linter.unusedVariables false

theorem cCut_cons (b : List UInt8) (ss : List UInt8) (k end_ : Nat) (s : UInt8) (h : ss[k]? = some s) (hs : s.toNat ≤ end_) : cCut b (ss.drop k) end_ = (b.drop s.toNat).take (end_ - s.toNat) :: cCut b (ss.drop (k + 1)) s.toNat := by
  obtain ⟨hk, hg⟩ := List.getElem?_eq_some_iff.1 h
  rw [List.drop_eq_getElem_cons hk, hg]
  simp only [cCut]
  rw [if_neg (by omega)]
theorem cCut_stop (b : List UInt8) (ss : List UInt8) (k end_ : Nat) (s : UInt8) (h : ss[k]? = some s) (hs : ¬ s.toNat ≤ end_) : cCut b (ss.drop k) end_ = [] := by
  obtain ⟨hk, hg⟩ := List.getElem?_eq_some_iff.1 h
  rw [List.drop_eq_getElem_cons hk, hg]
  simp only [cCut]
  rw [if_pos (by omega)]
/-- A cell of a page: its bytes, where it lies, with no room behind it. -/
theorem Arg.cell_ {w : World} {g off c : Nat} {l : List UInt8} (h : Arg w (some ⟨g, off, none⟩) 128 c l) (s e : Nat) (hs : s ≤ e) (he : e ≤ 128) (A : Option Addr) (hA : e - s = 0 ∨ A = some ⟨g, off + s, none⟩) (hn : A ≠ none) :
    Arg w A (e - s) (e - s) ((l.drop s).take (e - s)) := by
  have hl := h.len
  have hm := h.most
  have hr := h.room
  refine ⟨by simp; omega, ?_, ?_, Nat.le_refl _, by unfold maxLen at *; omega, fun h => absurd h hn⟩
  · rcases hA with h0 | rfl
    · rw [h0, List.take_zero]
      exact Reads.empty
    · intro hx
      obtain ⟨g', off', hA', hc⟩ := h.reads (by simp; omega)
      injection hA' with hA'
      injection hA' with h1 h2 _
      subst h1 h2
      refine ⟨g, off + s, rfl, fun j u hj => ?_⟩
      have hjl := (List.getElem?_eq_some_iff.1 hj).1
      rw [List.length_map, List.length_take] at hjl
      rw [Nat.add_assoc]
      refine hc (s + j) u ?_
      rw [← hj, List.getElem?_map, List.getElem?_map, List.getElem?_take, if_pos (by omega), List.getElem?_drop]
  · rintro h0 a rfl
    rcases hA with h1 | hA
    · omega
    · injection hA with hA
      subst hA
      exact h.old (a := ⟨g, off, none⟩) (by omega) rfl
theorem byinfo : (Tryd.prog.info? 25).map (fun i => (i.zero, i.size, i.bytes)) = some (some (.slice none 0 0), 1, 24) := by kernel_rfl
theorem by_own_nil (w : World) (B : Nat) : w.ownsRow B 25 1 (.slice none 0 0) 0 [] := ⟨rfl, .inl ⟨rfl, rfl⟩⟩
theorem lq_snoc (q : List Hd) (y : Hd) : lq (q ++ [y]) = lq q ++ [y.l] := by simp [lq]
theorem hd_snoc (q : List Hd) (y : Hd) : (q ++ [y]).map Hd.v = q.map Hd.v ++ [y.v] := by simp
theorem CellsA.of_own {w : World} {base n : Nat} {v : Value} {q : List Hd} (h : w.ownsRow base 25 1 v n (q.map Hd.v)) (he : ∀ x ∈ q, Arg w x.a x.n x.c x.l) : ∃ A c, v = .slice A n c ∧ CellsA w A n c q := by
  have hn : n = q.length := by have := h.1; simpa using this.symm
  rcases h.2 with ⟨rfl, rfl⟩ | ⟨g, cap, cur, rfl, h1, h2, h3, h4, h5, h6⟩
  · have := List.eq_nil_of_length_eq_zero hn.symm
    subst this
    exact ⟨none, 0, rfl, CellsA.none_ w⟩
  · refine ⟨_, cap, rfl, hn, fun hx => ⟨g, 0, rfl, fun j u hj => ?_⟩, he, h3, h4, fun h => by cases h⟩
    have hjl := (List.getElem?_eq_some_iff.1 hj).1
    have : Has w g 25 cur := h2
    rw [this.cell, Nat.zero_add, ← hj, ← h6, List.getElem?_take, if_pos (by have := h.1; omega)]
    simp
def CutEnd (w : World) (ls : List (List UInt8)) (e : Ending) (w' : World) : Prop := ∃ A n c q, e = .returned (.slice A n c) ∧ CellsA w' A n c q ∧ lq q = ls ∧ Below w.heap.size w w'
/-- How far the loop has come. -/
def CutSt (w : World) (l : List UInt8) (k : Nat) (v e : Value) (wr : World) : Prop :=
  ∃ (end_ : Nat) (q : List Hd), e = .int .i64 end_ ∧ end_ ≤ 128 ∧ q.length = k ∧ lq q ++ cCut l ((cSlotsOf l).drop k) end_ = cCells l ∧ (∀ x ∈ q, Arg w x.a x.n x.c x.l) ∧ wr.ownsRow w.heap.size 25 1 v k (q.map Hd.v) ∧ Below w.heap.size w wr
theorem CutSt.end_ {w wr : World} {l : List UInt8} {k : Nat} {v e : Value} (h : CutSt w l k v e wr) (hc : ∀ end_ : Nat, e = .int .i64 end_ → cCut l ((cSlotsOf l).drop k) end_ = []) : CutEnd w (cCells l) (.returned v) wr := by
  obtain ⟨end_, q, h1, h2, h3, h4, h5, h6, h7⟩ := h
  obtain ⟨A, c, rfl, hC⟩ := CellsA.of_own h6 (fun x hx => (h5 x hx).below h7)
  rw [hc _ h1, List.append_nil] at h4
  exact ⟨A, k, c, q, rfl, hC, h4, h7⟩

set_option maxRecDepth 100000 in
set_option maxHeartbeats 4000000 in
theorem ceCut_any (A : Option Addr) (c : Nat) (l : List UInt8) (w : World) (h : Arg w A 128 c l) :
    Calls Tryd.prog 23 #[.slice A 128 c] w (CutEnd w (cCells l)) := by
  obtain ⟨j0, hj, jz0, jz1, jz2⟩ := info_parts byinfo
  have HH := Lib.hid h
  have HL := Lib.hid h.len
  have hc := h.room
  have hcm := h.most
  unfold maxLen at hcm
  obtain ⟨g, off, rfl, hcell⟩ := h.reads (by have := h.len; simp; omega)
  obtain ⟨x, hx⟩ : ∃ x, l[5]? = some x := ⟨_, List.getElem?_eq_getElem (by have := h.len; omega)⟩
  have h5 : w.cell? ⟨g, off + 5, none⟩ = some (.int .u8 (x.toNat : Int)) := hcell 5 (byteV x) (by simp [hx])
  have hxl := x.toNat_lt
  have HX : Hid (cCount l = x.toNat) := Lib.hid (by unfold cCount; rw [hx]; rfl)
  have HSL : Hid (∀ k s, (cSlotsOf l)[k]? = some s → ∀ wr, Below w.heap.size w wr → wr.cell? ⟨g, off + 6 + k, none⟩ = some (.int .u8 (s.toNat : Int))) := Lib.hid (fun k s hk wr hb => by
    unfold cSlotsOf at hk
    rw [List.getElem?_take] at hk
    split at hk
    · rw [List.getElem?_drop] at hk
      rw [Nat.add_assoc]
      have h6 := hcell (6 + k) (byteV s) (by rw [List.getElem?_map, hk]; rfl)
      exact (hb.cell (p := ⟨g, off + (6 + k), none⟩) (World.block_lt_of_cell? w _ h6)).trans h6
    · cases hk)
  clear hcell h hx
  generalize x.toNat = z at *
  by_cases hz : z ≤ 122
  · have HM : Hid ((cSlotsOf l).length = z) := Lib.hid (by unfold cSlotsOf; rw [HX.out]; have := HL.out; simp; omega)
    go_enter Tryd.func23, Tryd.ntmps23
    go_wp2
    have e1 : 6 + z - 6 = z := by omega
    rw [e1]
    clear e1
    go_loopw [3, 4, 21] (fun v e i wr => ∃ k : Nat, k ≤ z ∧ i = .int .i64 k ∧ CutSt w l k v e wr) (fun _ _ i _ => z - (intOf i).toNat)
    case atStart => exact ⟨0, Nat.zero_le _, rfl, 128, [], rfl, Nat.le_refl _, rfl, rfl, fun x hx => (by cases hx), by_own_nil _ _, Below.refl _ _⟩
    case round =>
      obtain ⟨k, hk, rfl, hST⟩ := hrel
      have ST := Lib.hid hST
      clear hST
      by_cases hlt : k < z
      · obtain ⟨end_, q, rfl, he, hqk, hcut, hargs, hO, hB⟩ := ST.out
        have HO := Lib.hid hO
        have HB := Lib.hid hB
        have HQ := Lib.hid hqk
        have HCT := Lib.hid hcut
        have HAR := Lib.hid hargs
        clear hO hB hqk hcut hargs
        obtain ⟨s, hs⟩ : ∃ s, (cSlotsOf l)[k]? = some s := ⟨_, List.getElem?_eq_getElem (by rw [HM.out]; exact hlt)⟩
        have cs := HSL.out k s hs wr HB.out
        have hsl := s.toNat_lt
        by_cases hse : s.toNat ≤ end_
        · have CC := Lib.hid (cCut_cons l (cSlotsOf l) k end_ s hs hse)
          clear hs
          generalize s.toNat = t at *
          have b1 : (t : Int) ≤ (end_ : Int) := by omega
          have b2 : (end_ : Int) ≤ (c : Int) := by omega
          have b3 : ¬ ((end_ : Int) < (t : Int)) := by omega
          by_cases hte : end_ - t = 0
          · have CE := Lib.hid (fun A hn => HH.out.cell_ t end_ hse he A (Or.inl hte) hn)
            obtain rfl : t = end_ := by omega
            go_wp2_with (at_builtin; refine wpList_append_one rfl _ _ 22 25 rfl w.heap.size 25 j0 _ 24 Tryd.underlying22 hj jz0 jz1 jz2 rfl _ k _ rfl HO.out (.slice (some ⟨g, off, none⟩) 0 0) rfl rfl ?_ ?_ ?_ ?_; (omega); (unfold maxLen; omega); (exact HB.out.size); intro v4 w4 h7 h8; have O4 := Lib.hid h7; have B4 := Lib.hid (HB.out.trans h8); clear h7 h8)
            go_roundw
            case rel =>
              refine ⟨k + 1, by omega, by go_num, t, q ++ [⟨some ⟨g, off, none⟩, 0, 0, (l.drop t).take (t - t)⟩], rfl, he, by simp [HQ.out], ?_, ?_, ?_, B4.out⟩
              · have h1 := HCT.out
                rw [CC.out] at h1
                rw [lq_snoc, List.append_assoc]
                exact h1
              · intro x hx
                rcases List.mem_append.1 hx with h | h
                · exact HAR.out x h
                · obtain rfl := List.mem_singleton.1 h
                  have := CE.out (some ⟨g, off, none⟩) (by simp)
                  rw [Nat.sub_self] at this ⊢
                  exact this
              · rw [hd_snoc]
                exact O4.out
            case measure => simp [intOf]; omega
          · have CE := Lib.hid (HH.out.cell_ t end_ hse he (some ⟨g, off + t, none⟩) (Or.inr rfl) (by simp))
            have b4 : t < end_ := by omega
            go_wp2_with (at_builtin; refine wpList_append_one rfl _ _ 22 25 rfl w.heap.size 25 j0 _ 24 Tryd.underlying22 hj jz0 jz1 jz2 rfl _ k _ rfl HO.out (.slice (some ⟨g, off + t, none⟩) (end_ - t) (end_ - t)) rfl rfl ?_ ?_ ?_ ?_; (omega); (unfold maxLen; omega); (exact HB.out.size); intro v4 w4 h7 h8; have O4 := Lib.hid h7; have B4 := Lib.hid (HB.out.trans h8); clear h7 h8)
            go_roundw
            case rel =>
              refine ⟨k + 1, by omega, by go_num, t, q ++ [⟨some ⟨g, off + t, none⟩, end_ - t, end_ - t, (l.drop t).take (end_ - t)⟩], rfl, by omega, by simp [HQ.out], ?_, ?_, ?_, B4.out⟩
              · have h1 := HCT.out
                rw [CC.out] at h1
                rw [lq_snoc, List.append_assoc]
                exact h1
              · intro x hx
                rcases List.mem_append.1 hx with h | h
                · exact HAR.out x h
                · obtain rfl := List.mem_singleton.1 h
                  exact CE.out
              · rw [hd_snoc]
                exact O4.out
            case measure => simp [intOf]; omega
        · have CS := Lib.hid (cCut_stop l (cSlotsOf l) k end_ s hs hse)
          clear hs
          generalize s.toNat = t at *
          have b3 : (end_ : Int) < (t : Int) := by omega
          obtain ⟨w3, hw3⟩ : ∃ w3 : World, w3 = wr := ⟨_, rfl⟩
          subst hw3
          go_wp2
          go_ret
          refine CutSt.end_ ST.out (fun e he => ?_)
          injection he with he
          obtain rfl : end_ = e := by omega
          exact CS.out
      · have CS := Lib.hid (fun (e : Nat) => show cCut l ((cSlotsOf l).drop z) e = [] by rw [List.drop_eq_nil_of_le (Nat.le_of_eq HM.out)]; rfl)
        obtain rfl : k = z := by omega
        obtain ⟨w3, hw3⟩ : ∃ w3 : World, w3 = wr := ⟨_, rfl⟩
        subst hw3
        go_wp2
        go_ret
        exact CutSt.end_ ST.out (fun e he => CS.out e)
  · have HM : Hid ((cSlotsOf l).length = 122) := Lib.hid (by unfold cSlotsOf; rw [HX.out]; have := HL.out; simp; omega)
    go_enter Tryd.func23, Tryd.ntmps23
    go_wp2
    go_loopw [3, 4, 21] (fun v e i wr => ∃ k : Nat, k ≤ 122 ∧ i = .int .i64 k ∧ CutSt w l k v e wr) (fun _ _ i _ => 122 - (intOf i).toNat)
    case atStart => exact ⟨0, Nat.zero_le _, rfl, 128, [], rfl, Nat.le_refl _, rfl, rfl, fun x hx => (by cases hx), by_own_nil _ _, Below.refl _ _⟩
    case round =>
      obtain ⟨k, hk, rfl, hST⟩ := hrel
      have ST := Lib.hid hST
      clear hST
      by_cases hlt : k < 122
      · obtain ⟨end_, q, rfl, he, hqk, hcut, hargs, hO, hB⟩ := ST.out
        have HO := Lib.hid hO
        have HB := Lib.hid hB
        have HQ := Lib.hid hqk
        have HCT := Lib.hid hcut
        have HAR := Lib.hid hargs
        clear hO hB hqk hcut hargs
        obtain ⟨s, hs⟩ : ∃ s, (cSlotsOf l)[k]? = some s := ⟨_, List.getElem?_eq_getElem (by rw [HM.out]; exact hlt)⟩
        have cs := HSL.out k s hs wr HB.out
        have hsl := s.toNat_lt
        by_cases hse : s.toNat ≤ end_
        · have CC := Lib.hid (cCut_cons l (cSlotsOf l) k end_ s hs hse)
          clear hs
          generalize s.toNat = t at *
          have b1 : (t : Int) ≤ (end_ : Int) := by omega
          have b2 : (end_ : Int) ≤ (c : Int) := by omega
          have b3 : ¬ ((end_ : Int) < (t : Int)) := by omega
          by_cases hte : end_ - t = 0
          · have CE := Lib.hid (fun A hn => HH.out.cell_ t end_ hse he A (Or.inl hte) hn)
            obtain rfl : t = end_ := by omega
            go_wp2_with (at_builtin; refine wpList_append_one rfl _ _ 22 25 rfl w.heap.size 25 j0 _ 24 Tryd.underlying22 hj jz0 jz1 jz2 rfl _ k _ rfl HO.out (.slice (some ⟨g, off, none⟩) 0 0) rfl rfl ?_ ?_ ?_ ?_; (omega); (unfold maxLen; omega); (exact HB.out.size); intro v4 w4 h7 h8; have O4 := Lib.hid h7; have B4 := Lib.hid (HB.out.trans h8); clear h7 h8)
            go_roundw
            case rel =>
              refine ⟨k + 1, by omega, by go_num, t, q ++ [⟨some ⟨g, off, none⟩, 0, 0, (l.drop t).take (t - t)⟩], rfl, he, by simp [HQ.out], ?_, ?_, ?_, B4.out⟩
              · have h1 := HCT.out
                rw [CC.out] at h1
                rw [lq_snoc, List.append_assoc]
                exact h1
              · intro x hx
                rcases List.mem_append.1 hx with h | h
                · exact HAR.out x h
                · obtain rfl := List.mem_singleton.1 h
                  have := CE.out (some ⟨g, off, none⟩) (by simp)
                  rw [Nat.sub_self] at this ⊢
                  exact this
              · rw [hd_snoc]
                exact O4.out
            case measure => simp [intOf]; omega
          · have CE := Lib.hid (HH.out.cell_ t end_ hse he (some ⟨g, off + t, none⟩) (Or.inr rfl) (by simp))
            have b4 : t < end_ := by omega
            go_wp2_with (at_builtin; refine wpList_append_one rfl _ _ 22 25 rfl w.heap.size 25 j0 _ 24 Tryd.underlying22 hj jz0 jz1 jz2 rfl _ k _ rfl HO.out (.slice (some ⟨g, off + t, none⟩) (end_ - t) (end_ - t)) rfl rfl ?_ ?_ ?_ ?_; (omega); (unfold maxLen; omega); (exact HB.out.size); intro v4 w4 h7 h8; have O4 := Lib.hid h7; have B4 := Lib.hid (HB.out.trans h8); clear h7 h8)
            go_roundw
            case rel =>
              refine ⟨k + 1, by omega, by go_num, t, q ++ [⟨some ⟨g, off + t, none⟩, end_ - t, end_ - t, (l.drop t).take (end_ - t)⟩], rfl, by omega, by simp [HQ.out], ?_, ?_, ?_, B4.out⟩
              · have h1 := HCT.out
                rw [CC.out] at h1
                rw [lq_snoc, List.append_assoc]
                exact h1
              · intro x hx
                rcases List.mem_append.1 hx with h | h
                · exact HAR.out x h
                · obtain rfl := List.mem_singleton.1 h
                  exact CE.out
              · rw [hd_snoc]
                exact O4.out
            case measure => simp [intOf]; omega
        · have CS := Lib.hid (cCut_stop l (cSlotsOf l) k end_ s hs hse)
          clear hs
          generalize s.toNat = t at *
          have b3 : (end_ : Int) < (t : Int) := by omega
          obtain ⟨w3, hw3⟩ : ∃ w3 : World, w3 = wr := ⟨_, rfl⟩
          subst hw3
          go_wp2
          go_ret
          refine CutSt.end_ ST.out (fun e he => ?_)
          injection he with he
          obtain rfl : end_ = e := by omega
          exact CS.out
      · have CS := Lib.hid (fun (e : Nat) => show cCut l ((cSlotsOf l).drop 122) e = [] by rw [List.drop_eq_nil_of_le (Nat.le_of_eq HM.out)]; rfl)
        obtain rfl : k = 122 := by omega
        obtain ⟨w3, hw3⟩ : ∃ w3 : World, w3 = wr := ⟨_, rfl⟩
        subst hw3
        go_wp2
        go_ret
        exact CutSt.end_ ST.out (fun e he => CS.out e)

end Go.Proofs.YtlehajpadiiicaaDoor
