/- The document's regions of layer 6: Crash: contract, no statement. -/
import Derived.Test.YthbchloghbfnmaaDxg
namespace Go.Proofs.Ythbchloghbfnmaa
open Go.RowKit
set_option linter.unusedVariables false

theorem gsV_snoc (gs : List Gx) (g : Gx) : gsV (gs ++ [g]) = gsV gs ++ g.cells := by simp [gsV]
theorem Row.kept_own {w w' : World} {t e : TypeId} {lo b s n : Nat} {A : Option Addr} {v : Value} {xs ys : List Value} (h : Row w t lo A xs) (ho : w.ownsRow b e s v n ys) (hne : t ≠ e) (hg : w.grownBy w' v.ownBlock) : Row w' t lo A xs :=
  h.keep_ fun g cs _ hh => hh.grown hg (fun hq => by
    rcases ho.2 with ⟨rfl, _⟩ | ⟨g', cap, cur, rfl, _, hc, _⟩
    · cases hq
    · obtain rfl : g = g' := by injection hq
      exact hh.apart (show Has w g e cur from hc) hne rfl)
theorem SlT.of_row {w w' : World} {T : Tg} {t : TypeId} {lo n c : Nat} {A : Option Addr} {xs : List Value} (h : SlT w T A n c xs) (hr : Row w' t lo A xs) : SlT w' T A n c xs := ⟨hr.reads, h.un, h.room, h.most, h.nil⟩
/-- A region with nothing loose, its pages in blocks of their own. -/
structure Cq (w : World) (T : Tg) (B : Nat) (g : Gx) : Prop where
  pg : SlT w T g.pA g.r.size g.pc ((pagesL g.r.syn g.r.size).map txtV)
  row : Row w 9 B g.pA ((pagesL g.r.syn g.r.size).map txtV)
  la : g.lA = none
  lc : g.lc = 0
  lo : g.r.loose = []
  ok : Rok g.r
theorem Cq.gok {w : World} {T : Tg} {B : Nat} {g : Gx} (h : Cq w T B g) : Gok w T g := by
  refine ⟨h.pg, ?_, h.ok⟩
  rw [h.la, h.lc, h.lo]
  exact SlT.none_ w T
/-- What is laid of a row of regions, the first k of them. -/
structure Cr (w0 : World) (T : Tg) (rs : List Rg) (k : Nat) (v : Value) (gs : List Gx) (w : World) : Prop where
  row : w.ownsRow w0.heap.size 53 4 v k (gsV gs)
  rg : rgs gs = rs.take k
  bel : Below w0.heap.size w0 w
  each : ∀ g ∈ gs, Cq w T w0.heap.size g
section
variable {w0 w w' : World} {T : Tg} {rs : List Rg} {k : Nat} {v : Value} {gs : List Gx}
theorem Cr.start (w0 : World) (T : Tg) (rs : List Rg) : Cr w0 T rs 0 (.slice none 0 0) [] w0 := ⟨World.ownsRow_nil _ _ _ _, by simp [rgs], Below.refl _ _, by simp⟩
theorem Cr.below (h : Cr w0 T rs k v gs w) (hb : Below w.heap.size w w') : Cr w0 T rs k v gs w' :=
  ⟨own_keepG h.row (fun g _ hg => hb.block g (h.row.lt g hg).2), h.rg, below_step h.bel hb, fun g hg => by
    have := h.each g hg
    exact ⟨this.pg.below hb, this.row.below hb, this.la, this.lc, this.lo, this.ok⟩⟩
theorem Cr.step (h : Cr w0 T rs k v gs w) (o : Obj) {v4 : Value} {w4 : World} {g' : Gx} (hg' : Cq w T w0.heap.size g') (hrs : rs[k]? = some g'.r) (h9 : w4.ownsRow w0.heap.size 53 4 v4 (k + 1) (gsV gs ++ g'.cells)) (h10 : (w.alloc o).grownBy w4 v.ownBlock) :
    Cr w0 T rs (k + 1) v4 (gs ++ [g']) w4 := by
  have ho : (w.alloc o).ownsRow w0.heap.size 53 4 v k (gsV gs) := h.row.alloc o
  have hs := h.bel.size
  have hrow : ∀ {lo A xs}, Row w 9 lo A xs → Row w4 9 lo A xs := fun hr => (hr.alloc o).kept_own ho (by decide) h10
  refine ⟨by rw [gsV_snoc]; exact h9, ?_, below_ownR (h.bel.alloc hs o) h10 ho (by simp; omega), fun g hg => ?_⟩
  · rw [List.take_add_one, hrs, ← h.rg]
    simp [rgs]
  · rcases List.mem_append.1 hg with hg | hg
    · have := h.each g hg
      exact ⟨this.pg.of_row (hrow this.row), hrow this.row, this.la, this.lc, this.lo, this.ok⟩
    · obtain rfl := List.mem_singleton.1 hg
      exact ⟨hg'.pg.of_row (hrow hg'.row), hrow hg'.row, hg'.la, hg'.lc, hg'.lo, hg'.ok⟩
theorem Cr.done (h : Cr w0 T rs k v gs w) (hk : k = rs.length) (hT : ∀ g, w0.heap.size ≤ g → T g = none) : ∃ A c, v = .slice A k c ∧ GA w T A k c gs ∧ rgs gs = rs := by
  obtain ⟨A, c, hv, hs⟩ := SlT.of_own (T := T) h.row hT
  have hr := h.rg
  rw [List.take_of_length_le (Nat.le_of_eq hk.symm)] at hr
  exact ⟨A, c, hv, ⟨by rw [hk, ← hr, rgs_len], hs, fun g hg => (h.each g hg).gok⟩, hr⟩
end

theorem cell_four_new (w : World) (e : TypeId) (u0 u1 u2 u3 : Value) : ∀ j u, [u0, u1, u2, u3][j]? = some u → (w.alloc (.cells #[u0, u1, u2, u3] e)).cell? ((⟨w.heap.size, 0, none⟩ : Addr).add j) = some u := fun j u hj => by
  rw [add_plain, Nat.zero_add]
  have := (Has.made w e #[u0, u1, u2, u3]).cell j
  exact this.trans (by simpa using hj)
theorem keepF_len (K : Nat → Bool) : ∀ (l : List Wr) (i : Nat), (keepF K i l).length ≤ l.length
  | [], _ => Nat.le_refl _
  | x :: l, i => by
    have := keepF_len K l (i + 1)
    simp only [keepF]
    split <;> simp <;> omega
theorem bit_nil (i : Nat) : bitS [] i = false := by simp [bitS, List.getD]
theorem crA_at (ks : List (List UInt8)) {gs : List Gx} {k : Nat} {g : Gx} (h : gs[k]? = some g) : (crA ks (rgs gs))[k]? = some (crOne ks k g.r) := by
  simp [crA, rgs, h]
section
variable {w : World} {T : Tg} {A : Option Addr} {n c : Nat} {gs : List Gx}
set_option maxRecDepth 100000 in
set_option maxHeartbeats 8000000 in
theorem r6Crash_any (Ak : Option Addr) (kn kc : Nat) (ks : List (List UInt8)) (h : GA w T A n c gs) (hk : Txts w Ak kn ks) (hn : gs.length ≤ 1000) (hm : ∀ r ∈ rgs gs, r.loose.length ≤ 1000) (hT : ∀ g, w.heap.size ≤ g → T g = none) :
    Calls Try.prog 20 #[.slice A n c, .slice Ak kn kc] w (GrEnd T (crA ks (rgs gs)) n w) := by
  obtain ⟨i0, hi, hz0, hz1, hz2⟩ := info_parts info_G6
  obtain ⟨j0, hj, jz0, jz1, jz2⟩ := info_parts info_L6
  have HH := Lib.hid h
  have HKS := Lib.hid hk
  have HT := Lib.hid hT
  have HM := Lib.hid hm
  have HLEN := Lib.hid h.len
  have hn2 : n ≤ 1000 := by rw [h.len]; exact hn
  clear h hk hT hm hn
  go_enter Try.func20, Try.ntmps20
  go_wp2
  go_loopw [5, 6] (fun v i wr => ∃ (k : Nat) (gs' : List Gx), k ≤ n ∧ i = .int .i64 (k : Int) ∧ Cr w T (crA ks (rgs gs)) k v gs' wr) (fun _ i _ => n - (intOf i).toNat)
  case atStart => exact ⟨0, [], Nat.zero_le _, rfl, Cr.start w T _⟩
  case round =>
    obtain ⟨k, gs', hk0, rfl, hr⟩ := hrel
    have HR := Lib.hid hr
    clear hr
    by_cases hlt : k < n
    · obtain ⟨g, hg⟩ : ∃ g, gs[k]? = some g := ⟨_, List.getElem?_eq_getElem (by rw [← HLEN.out]; exact hlt)⟩
      have HRS := Lib.hid (crA_at ks hg)
      have hgo := (HH.out.below HR.out.bel).reg hg
      obtain ⟨b, off, rfl, c0, c1, c2, c3⟩ := (HH.out.below HR.out.bel).at_ hg
      have hlm := HM.out g.r (List.mem_map.2 ⟨g, List.mem_of_getElem? hg, rfl⟩)
      obtain ⟨r, pA, pc, lA, lc⟩ := g
      dsimp only at *
      have HG := Lib.hid hgo
      obtain ⟨ln, hln⟩ : ∃ ln, r.loose.length = ln := ⟨_, rfl⟩
      rw [hln] at c1 hlm
      have HLN := Lib.hid hln
      have i1 : (0 : Int) ≤ (k : Int) := by omega
      have i2 : (k : Int) < (n : Int) := by omega
      clear hgo hln hg c2 c3
      obtain ⟨wo, hwo⟩ : ∃ wo : World, wo = wr := ⟨_, rfl⟩
      subst hwo
      by_cases hkk : k < kn
      · obtain ⟨s, hs⟩ : ∃ s, ks[k]? = some s := ⟨_, List.getElem?_eq_getElem (by rw [← HKS.out.len]; exact hkk)⟩
        have HSL := Lib.hid (HKS.out.each s (List.mem_of_getElem? hs))
        have HGD : Hid (ks.getD k [] = s) := Lib.hid (by simp [List.getD, hs])
        obtain ⟨kb, ko, rfl, hkc⟩ := (HKS.out.reads.keep_ HR.out.bel) (by have := HKS.out.len; simp; omega)
        have ck := hkc k _ (by rw [List.getElem?_map, hs]; rfl)
        unfold txtV at ck
        have i3 : (k : Int) < (kn : Int) := by omega
        clear hkc hs hkk
        go_wp2
        go_loopw [7, 8] (fun v i wr => ∃ j : Nat, j ≤ ln ∧ i = .int .i64 (j : Int) ∧ wr.ownsRow wo.heap.size 81 2 v (keepF (bitS (ks.getD k [])) 0 (r.loose.take j)).length (looseV (keepF (bitS (ks.getD k [])) 0 (r.loose.take j))) ∧ Below wo.heap.size wo wr) (fun _ i _ => ln - (intOf i).toNat)
        case atStart => exact ⟨0, Nat.zero_le _, rfl, World.ownsRow_nil _ _ _ _, Below.refl _ _⟩
        case round =>
          obtain ⟨j, hj0, rfl, hq, hbq⟩ := hrel
          have HQ := Lib.hid hq
          have BQ := Lib.hid hbq
          have e0 := cellB c0 hbq
          have e1 := cellB c1 hbq
          have ek := cellB ck hbq
          clear hq hbq
          by_cases hjl : j < ln
          · obtain ⟨y, hy⟩ : ∃ y, r.loose[j]? = some y := ⟨_, List.getElem?_eq_getElem (by rw [HLN.out]; exact hjl)⟩
            obtain ⟨lb, lo, hB, d0, d1⟩ := (HG.out.below BQ.out).wr hy
            dsimp only at hB
            subst hB
            have HBT := Lib.hid (r6bit_any s j wr HSL.out (by omega))
            have HTK : Hid (keepF (bitS (ks.getD k [])) 0 (r.loose.take (j + 1)) = if bitS s j then keepF (bitS (ks.getD k [])) 0 (r.loose.take j) ++ [y] else keepF (bitS (ks.getD k [])) 0 (r.loose.take j)) := Lib.hid (by
              rw [List.take_add_one, hy]
              have := keepF_snoc (bitS (ks.getD k [])) y (r.loose.take j) 0
              rw [HGD.out, Nat.zero_add, List.length_take, Nat.min_eq_left (by have := HLN.out; omega)] at this
              rw [HGD.out]
              exact this)
            obtain ⟨sl, hsl⟩ : ∃ sl, keepF (bitS (ks.getD k [])) 0 (r.loose.take j) = sl := ⟨_, rfl⟩
            have HSN : Hid (sl.length ≤ 1000) := Lib.hid (by rw [← hsl]; exact Nat.le_trans (keepF_len _ _ _) (by rw [List.length_take]; omega))
            rw [hsl] at HQ HTK
            obtain ⟨z, yb⟩ := y
            dsimp only at d0 d1
            unfold txtV at d1
            obtain ⟨yy, hyy⟩ : ∃ q : ByteArray, (⟨yb.toArray⟩ : ByteArray) = q := ⟨_, rfl⟩
            rw [hyy] at d1
            have HLS : Hid (looseV (sl ++ [(z, yb)]) = looseV sl ++ [.int .i64 z, .string yy]) := Lib.hid (by rw [looseV_snoc, ← hyy]; rfl)
            have j1 : (0 : Int) ≤ (j : Int) := by omega
            have j2 : (j : Int) < (ln : Int) := by omega
            cases hb : bitS s j
            · rw [hb] at HBT HTK
              rw [if_neg (by decide)] at HTK
              clear hb hy hsl hyy
              go_wp2_with (go_at_call 44; (with_reducible refine HBT.out.mono ?_); rintro e w5 ⟨rfl, rfl⟩)
              go_roundw
              case rel => exact ⟨j + 1, by omega, by go_num, by rw [HTK.out]; exact HQ.out, BQ.out⟩
              case measure => simp [intOf]; omega
            · rw [hb] at HBT HTK
              rw [if_pos rfl] at HTK
              clear hb hy hsl hyy
              obtain ⟨sn, hsn⟩ : ∃ sn, sl.length = sn := ⟨_, rfl⟩
              have HSN2 := Lib.hid hsn
              rw [hsn] at HQ HSN
              clear hsn
              go_wp2_with (first
                | (go_at_call 44; (with_reducible refine HBT.out.mono ?_); rintro e w5 ⟨rfl, rfl⟩)
                | (at_builtin; refine wpList_append_own _ rfl _ _ 51 rfl wo.heap.size 81 j0 _ 2 24 Try.underlying51 hj jz0 jz1 jz2 rfl (by decide) _ sn _ rfl (HQ.out.alloc _) ⟨wr.heap.size, 0, none⟩ 1 1 [.int .i64 z, .string yy] rfl rfl ?_ ?_ ?_ ?_ ?_ ?_; (exact cell_two_new _ _ _ _); (intro u hu; simp at hu; rcases hu with rfl | rfl <;> rfl); (have := HSN.out; unfold maxLen; omega); (have := HSN.out; omega); (have hq := BQ.out.size; simp; omega); intro v4 w4 h9 h10 _; have O4 := Lib.hid h9; have B4 := Lib.hid (below_ownR (BQ.out.alloc BQ.out.size (.cells #[.int .i64 z, .string yy] 81)) h10 (HQ.out.alloc (.cells #[.int .i64 z, .string yy] 81)) (by have := BQ.out.size; simp; omega)); clear h9 h10))
              go_roundw
              case rel => exact ⟨j + 1, by omega, by go_num, by rw [HTK.out, List.length_append, HSN2.out, HLS.out]; exact O4.out, B4.out⟩
              case measure => simp [intOf]; omega
          · obtain rfl : j = ln := by omega
            have hq7 := HQ.out
            rw [List.take_of_length_le (Nat.le_of_eq HLN.out)] at hq7
            clear e0 e1 ek
            obtain ⟨sl, hsl⟩ : ∃ sl, keepF (bitS (ks.getD k [])) 0 r.loose = sl := ⟨_, rfl⟩
            rw [hsl] at hq7
            have hslm : ∀ x ∈ sl, x ∈ r.loose := fun x hx => keepF_mem (K := bitS (ks.getD k [])) r.loose 0 (by rw [hsl]; exact hx)
            have hsll : sl.length ≤ 1000 := by rw [← hsl]; exact Nat.le_trans (keepF_len _ _ _) (by have := HLN.out; omega)
            obtain ⟨A7, c7, rfl, hs7⟩ := SlT.of_own (T := T) hq7 (fun g hg => HT.out g (by have := HR.out.bel.size; omega))
            have hgq := HG.out.below BQ.out
            have HKP := Lib.hid (r6kept_any pA A7 r.size pc sl.length c7 (pagesL r.syn r.size) sl hgq.pg hs7 (pagesL_len _ _).symm rfl HG.out.ok.pos HG.out.ok.most hsll (fun x hx => ⟨(HG.out.ok.loose x (hslm x hx)).1, (HG.out.ok.loose x (hslm x hx)).2.1⟩) (fun g hg => HT.out g (by have := HR.out.bel.size; have := BQ.out.size; omega)))
            have HPG : Hid (keptL (pagesL r.syn r.size) sl = pagesL (crOne ks k r).syn (crOne ks k r).size) := Lib.hid (by
              rw [keptL_pages _ _ _ (fun x hx => (HG.out.ok.loose x (hslm x hx)).1), ← hsl, keepF_set]
              rfl)
            have HRQ := Lib.hid (HR.out.below BQ.out)
            have HOK : Hid (Rok (crOne ks k r)) := Lib.hid (upR_ok (setR_ok HG.out.ok))
            have HW0 : Hid (w.heap.size ≤ wr.heap.size) := Lib.hid (by have := HR.out.bel.size; have := BQ.out.size; omega)
            have q0 := cellB c0 BQ.out
            have q1 := cellB c1 BQ.out
            clear hsl hslm hq7 hs7 hgq hsll
            generalize sl.length = sn at HKP
            go_wp2_with (first
              | (go_at_call 40; (with_reducible refine HKP.out.mono ?_); rintro e w3 ⟨A3, c3, rfl, h5, _, h7, h8⟩; rw [HPG.out] at h5 h8; have C3 := Lib.hid (HRQ.out.below h7); have Q3 : Hid (Cq w3 T w.heap.size ⟨crOne ks k r, A3, c3, none, 0⟩) := Lib.hid ⟨h5, h8.low HW0.out, rfl, rfl, rfl, HOK.out⟩; have L3 : Hid (w.heap.size ≤ w3.heap.size) := Lib.hid (Nat.le_trans HW0.out h7.size); clear h5 h7 h8)
              | (at_builtin; refine wpList_append_own _ rfl _ _ 30 rfl w.heap.size 53 i0 _ 4 64 Try.underlying30 hi hz0 hz1 hz2 rfl (by decide) _ k _ rfl (C3.out.row.alloc _) ⟨w3.heap.size, 0, none⟩ 1 1 [.slice A3 r.size c3, .slice none 0 0, .int .i64 (-1), .bool false] rfl rfl ?_ ?_ ?_ ?_ ?_ ?_; (exact cell_four_new _ _ _ _ _ _); (intro u hu; simp at hu; rcases hu with rfl | rfl | rfl | rfl <;> rfl); (unfold maxLen; omega); (omega); (have hq := L3.out; simp; omega); intro v4 w4 h9 h10 _; have C4 := Lib.hid (C3.out.step _ (g' := ⟨crOne ks k r, A3, c3, none, 0⟩) Q3.out HRS.out h9 h10); clear h9 h10))
            go_roundw
            case rel => exact ⟨k + 1, _, by omega, by go_num, C4.out⟩
            case measure => simp [intOf]; omega
      · have HGD : Hid (ks.getD k [] = []) := Lib.hid (by simp [List.getD, List.getElem?_eq_none (show ks.length ≤ k by rw [← HKS.out.len]; omega)])
        have i3 : ¬ (k : Int) < (kn : Int) := by omega
        clear hkk
        go_wp2
        go_loopw [7, 8] (fun v i wr => v = .slice none 0 0 ∧ i = .int .i64 0 ∧ wr = wo) (fun _ _ _ => 0)
        case atStart => exact ⟨rfl, rfl, rfl⟩
        case round =>
          obtain ⟨rfl, rfl, rfl⟩ := hrel
          have BQ := Lib.hid (Below.refl wr.heap.size wr)
          have hgq := HG.out
          have HKP := Lib.hid (r6kept_any pA none r.size pc 0 0 (pagesL r.syn r.size) [] hgq.pg (SlT.none_ _ _) (pagesL_len _ _).symm rfl HG.out.ok.pos HG.out.ok.most (by omega) (fun x hx => by cases hx) (fun g hg => HT.out g (by have := HR.out.bel.size; omega)))
          have HPG : Hid (keptL (pagesL r.syn r.size) [] = pagesL (crOne ks k r).syn (crOne ks k r).size) := Lib.hid (by
            rw [← keepF_none (K := bitS (ks.getD k [])) (fun i => by rw [HGD.out]; exact bit_nil i) r.loose 0, keptL_pages _ _ _ (fun x hx => (HG.out.ok.loose x (keepF_mem _ _ hx)).1), keepF_set]
            rfl)
          have HRQ := Lib.hid HR.out
          have HOK : Hid (Rok (crOne ks k r)) := Lib.hid (upR_ok (setR_ok HG.out.ok))
          have HW0 : Hid (w.heap.size ≤ wr.heap.size) := Lib.hid HR.out.bel.size
          clear hgq
          by_cases hl0 : ln = 0
          · subst hl0
            go_wp2_with (first
              | (go_at_call 40; (with_reducible refine HKP.out.mono ?_); rintro e w3 ⟨A3, c3, rfl, h5, _, h7, h8⟩; rw [HPG.out] at h5 h8; have C3 := Lib.hid (HRQ.out.below h7); have Q3 : Hid (Cq w3 T w.heap.size ⟨crOne ks k r, A3, c3, none, 0⟩) := Lib.hid ⟨h5, h8.low HW0.out, rfl, rfl, rfl, HOK.out⟩; have L3 : Hid (w.heap.size ≤ w3.heap.size) := Lib.hid (Nat.le_trans HW0.out h7.size); clear h5 h7 h8)
              | (at_builtin; refine wpList_append_own _ rfl _ _ 30 rfl w.heap.size 53 i0 _ 4 64 Try.underlying30 hi hz0 hz1 hz2 rfl (by decide) _ k _ rfl (C3.out.row.alloc _) ⟨w3.heap.size, 0, none⟩ 1 1 [.slice A3 r.size c3, .slice none 0 0, .int .i64 (-1), .bool false] rfl rfl ?_ ?_ ?_ ?_ ?_ ?_; (exact cell_four_new _ _ _ _ _ _); (intro u hu; simp at hu; rcases hu with rfl | rfl | rfl | rfl <;> rfl); (unfold maxLen; omega); (omega); (have hq := L3.out; simp; omega); intro v4 w4 h9 h10 _; have C4 := Lib.hid (C3.out.step _ (g' := ⟨crOne ks k r, A3, c3, none, 0⟩) Q3.out HRS.out h9 h10); clear h9 h10))
            go_roundw
            case rel => exact ⟨k + 1, _, by omega, by go_num, C4.out⟩
            case measure => simp [intOf]; omega
          · have i4 : (0 : Int) < (ln : Int) := by omega
            go_wp2_with (first
              | (go_at_call 40; (with_reducible refine HKP.out.mono ?_); rintro e w3 ⟨A3, c3, rfl, h5, _, h7, h8⟩; rw [HPG.out] at h5 h8; have C3 := Lib.hid (HRQ.out.below h7); have Q3 : Hid (Cq w3 T w.heap.size ⟨crOne ks k r, A3, c3, none, 0⟩) := Lib.hid ⟨h5, h8.low HW0.out, rfl, rfl, rfl, HOK.out⟩; have L3 : Hid (w.heap.size ≤ w3.heap.size) := Lib.hid (Nat.le_trans HW0.out h7.size); clear h5 h7 h8)
              | (at_builtin; refine wpList_append_own _ rfl _ _ 30 rfl w.heap.size 53 i0 _ 4 64 Try.underlying30 hi hz0 hz1 hz2 rfl (by decide) _ k _ rfl (C3.out.row.alloc _) ⟨w3.heap.size, 0, none⟩ 1 1 [.slice A3 r.size c3, .slice none 0 0, .int .i64 (-1), .bool false] rfl rfl ?_ ?_ ?_ ?_ ?_ ?_; (exact cell_four_new _ _ _ _ _ _); (intro u hu; simp at hu; rcases hu with rfl | rfl | rfl | rfl <;> rfl); (unfold maxLen; omega); (omega); (have hq := L3.out; simp; omega); intro v4 w4 h9 h10 _; have C4 := Lib.hid (C3.out.step _ (g' := ⟨crOne ks k r, A3, c3, none, 0⟩) Q3.out HRS.out h9 h10); clear h9 h10))
            go_roundw
            case rel => exact ⟨k + 1, _, by omega, by go_num, C4.out⟩
            case measure => simp [intOf]; omega
    · obtain rfl : k = n := by omega
      obtain ⟨A', c', hv, hga, hrg⟩ := HR.out.done (by rw [set_len_crA, rgs_len]; exact HLEN.out) HT.out
      subst hv
      have HGA := Lib.hid hga
      have HRG := Lib.hid hrg
      have HBE := Lib.hid HR.out.bel
      clear hga hrg
      go_wp2
      go_ret
      exact ⟨A', c', gs', rfl, HGA.out, HRG.out, HBE.out⟩
end

end Go.Proofs.Ythbchloghbfnmaa
