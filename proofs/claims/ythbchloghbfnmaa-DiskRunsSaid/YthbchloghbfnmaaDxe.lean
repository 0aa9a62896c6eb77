/- The document's regions of layer 6: Read: contract, no statement. -/
import Derived.Test.YthbchloghbfnmaaDxd
namespace Go.Proofs.Ythbchloghbfnmaa
open Go.RowKit
set_option linter.unusedVariables false

theorem Gok.page {w : World} {T : Tg} {g : Gx} (h : Gok w T g) {q : Nat} (hq : q < g.r.size) : ∃ b off, g.pA = some ⟨b, off, none⟩ ∧ w.cell? ⟨b, off + q, none⟩ = some (txtV ((g.r.syn (q : Int)).getD zeros)) := by
  obtain ⟨b, off, hA, hc⟩ := h.pg.reads (by simp [pagesL_len]; omega)
  exact ⟨b, off, hA, hc q _ (by rw [List.getElem?_map, pagesL_at _ hq]; rfl)⟩
theorem Gok.wr {w : World} {T : Tg} {g : Gx} (h : Gok w T g) {q : Nat} {x : Wr} (hq : g.r.loose[q]? = some x) : ∃ b off, g.lA = some ⟨b, off, none⟩ ∧ w.cell? ⟨b, off + q * 2, none⟩ = some (.int .i64 x.1) ∧ w.cell? ⟨b, off + q * 2 + 1, none⟩ = some (txtV x.2) := by
  have hl := (List.getElem?_eq_some_iff.1 hq).1
  obtain ⟨b, off, hA, hc⟩ := h.lo.reads (by rw [looseV_len]; omega)
  obtain ⟨h1, h2⟩ := looseV_at g.r.loose q x hq
  exact ⟨b, off, hA, hc _ _ h1, hc _ _ h2⟩
theorem up_not {rs : List Rg} {x p : Int} (h : rdE rs x p ≠ 0) : rdL rs x p = [] := by
  unfold rdE at h
  unfold rdL
  cases hr : regN rs x with
  | none => rfl
  | some r =>
    simp only [hr] at h ⊢
    split
    · rfl
    · split
      · simp_all
      · rfl
theorem up_yes {rs : List Rg} {x p : Int} (h : rdE rs x p = 0) : ∃ r, regN rs x = some r ∧ r.down = false ∧ 0 ≤ p ∧ p < r.size ∧ rdL rs x p = rdP r p := by
  unfold rdE at h
  unfold rdL
  cases hr : regN rs x with
  | none => simp [hr] at h
  | some r =>
    simp only [hr] at h ⊢
    cases hd : r.down
    · cases hh : hasB r p
      · simp [hd, hh] at h
      · unfold hasB at hh
        simp at hh
        exact ⟨r, rfl, hd, hh.1, hh.2, by simp⟩
    · simp [hd] at h
section
variable {w : World} {T : Tg} {A : Option Addr} {n c : Nat} {gs : List Gx}
set_option maxRecDepth 100000 in
set_option maxHeartbeats 2000000 in
theorem r6Read_any (x p : Int) (h : GA w T A n c gs) (hm : ∀ r ∈ rgs gs, r.loose.length ≤ 1000) : Calls Try.prog 22 #[.slice A n c, .int .i64 x, .int .i64 p] w fun e w' => e = .returned (.tuple #[txtV (rdL (rgs gs) x p), .int .i64 (rdE (rgs gs) x p)]) ∧ Below w.heap.size w w' := by
  have hup := r6up_any x p true h
  rw [upI_rd] at hup
  by_cases he : rdE (rgs gs) x p = 0
  · rw [he] at hup ⊢
    obtain ⟨r, hr, hd, hp0, hp1, hrd⟩ := up_yes he
    rw [hrd]
    obtain ⟨k, g, rfl, hg, rfl, hk⟩ := regN_gs hr
    obtain ⟨q, rfl⟩ : ∃ q : Nat, p = (q : Int) := ⟨p.toNat, by omega⟩
    have hlm := hm g.r (List.mem_map.2 ⟨g, List.mem_of_getElem? hg, rfl⟩)
    have hgo := h.reg hg
    have hlen := h.len
    obtain ⟨b, off, rfl, c0, c1, c2, c3⟩ := h.at_ hg
    obtain ⟨r, pA, pc, lA, lc⟩ := g
    dsimp only at *
    rw [hd] at c3
    obtain ⟨W, hW⟩ : ∃ W, w.alloc (.cells #[.slice pA r.size pc, .slice lA r.loose.length lc, .int .i64 r.left, .bool false] 53) = W := ⟨_, rfl⟩
    have hBW : Below w.heap.size w W := hW ▸ (Below.refl _ w).alloc (Nat.le_refl _) _
    have hbox : Has W w.heap.size 53 #[.slice pA r.size pc, .slice lA r.loose.length lc, .int .i64 r.left, .bool false] := hW ▸ Has.made w 53 _
    have hgoW := hgo.below hBW
    have b0 := hbox.cell 0
    have b1 := hbox.cell 1
    simp only [List.getElem?_toArray, List.getElem?_cons_succ, List.getElem?_cons_zero] at b0 b1
    obtain ⟨pb, po, hpA, cp⟩ := hgoW.page (q := q) (show q < r.size by omega)
    have HGW := Lib.hid hgoW
    obtain ⟨ln, hln⟩ : ∃ ln, r.loose.length = ln := ⟨_, rfl⟩
    rw [hln] at b1 c1 hW hlm
    have HLN := Lib.hid hln
    dsimp only at hpA cp
    subst hpA
    have HBW := Lib.hid hBW
    have HUP := Lib.hid hup
    have i2 : (0 : Int) ≤ (k : Int) := by omega
    have i3 : (k : Int) < (n : Int) := by omega
    have i4 : (0 : Int) ≤ (q : Int) := by omega
    clear hup h he hm hr hrd hd hg hk hgo hgoW hbox hln hlen hBW hp0
    have HST := Lib.hid (hW ▸ store_G6 w (.slice (some ⟨pb, po, none⟩) r.size pc) (.slice lA ln lc) (.int .i64 r.left) (.bool false) (by simp [Value.oneCell']))
    clear hW
    go_enter Try.func22, Try.ntmps22
    go_wp2_with (first
      | (go_at_call 35; (with_reducible refine HUP.out.mono ?_); rintro e w2 ⟨rfl, rfl⟩)
      | (refine wpL_store rfl 53 (.tmp 9) (.tmp 21) rfl _ _ rfl rfl _ HST.out ?_))
    go_loop [10] (fun i => ∃ (z : Int) (j : Nat), i = .int .i64 z ∧ z + 1 = j ∧ j ≤ ln ∧ lastFrom 0 r.loose (q : Int) = lastFrom 0 (r.loose.take j) (q : Int)) (fun i => (intOf i + 1).toNat)
    case atStart => exact ⟨_, ln, rfl, by omega, Nat.le_refl _, by rw [List.take_of_length_le (Nat.le_of_eq HLN.out)]⟩
    case round =>
      obtain ⟨z, j, rfl, hz, hj, hlast⟩ := hrel
      have HLA := Lib.hid hlast
      clear hlast
      by_cases h0 : z < 0
      · obtain rfl : j = 0 := by omega
        have HR : Hid (rdP r (q : Int) = (r.syn (q : Int)).getD zeros) := Lib.hid (rdP_none (by rw [HLA.out]; rfl))
        go_wp2
        go_ret2
        exact ⟨by rw [HR.out] <;> rfl, HBW.out⟩
      · obtain ⟨m, rfl⟩ : ∃ m : Nat, z = (m : Int) := ⟨z.toNat, by omega⟩
        obtain rfl : j = m + 1 := by omega
        have hml : m < r.loose.length := by have := HLN.out; omega
        obtain ⟨y, hy⟩ : ∃ y, r.loose[m]? = some y := ⟨_, List.getElem?_eq_getElem hml⟩
        obtain ⟨lb, lo, hlA, d0, d1⟩ := HGW.out.wr hy
        dsimp only at hlA
        subst hlA
        have j0 : (0 : Int) ≤ (m : Int) := by omega
        have j1 : (m : Int) < (ln : Int) := by omega
        have HT : Hid (r.loose.take (m + 1) = r.loose.take m ++ [y]) := Lib.hid (by rw [List.take_add_one, hy]; rfl)
        have HY := Lib.hid hy
        clear hml hy hz
        by_cases hyp : y.1 = (q : Int)
        · have HR : Hid (rdP r (q : Int) = y.2) := Lib.hid (rdP_some (j := m) (by rw [HLA.out, HT.out, lastFrom_snoc, if_pos hyp.symm, List.length_take]; congr 1; have := HLN.out; omega) HY.out)
          have e1 : (y.1 == (q : Int)) = true := by simpa using hyp
          clear hyp
          go_wp2
          go_ret2
          exact ⟨by rw [HR.out] <;> rfl, HBW.out⟩
        · have e1 : (y.1 == (q : Int)) = false := by simpa using hyp
          have HX : Hid (lastFrom 0 r.loose (q : Int) = lastFrom 0 (r.loose.take m) (q : Int)) := Lib.hid (by rw [HLA.out, HT.out, lastFrom_snoc, if_neg (fun e => hyp e.symm)])
          clear hyp
          go_wp2
          go_round
          case rel => exact ⟨_, m, rfl, by omega, by omega, HX.out⟩
          case measure => simp [intOf]
  · rw [up_not he]
    obtain ⟨er, her⟩ : ∃ er, rdE (rgs gs) x p = er := ⟨_, rfl⟩
    rw [her] at hup he ⊢
    have HUP := Lib.hid hup
    have e1 : (er == 0) = false := by simpa using he
    clear hup h he hm her
    go_enter Try.func22, Try.ntmps22
    go_wp2_with (go_at_call 35; (with_reducible refine HUP.out.mono ?_); rintro e w2 ⟨rfl, rfl⟩)
    go_ret2
    exact ⟨rfl, Below.refl _ _⟩
end

end Go.Proofs.Ythbchloghbfnmaa
