import Derived.Test.YthcjledpjlpfaaaDoorJ08
import Derived.Test.YthcjledpjlpfaaaDoorJ07
import Derived.RangeFuncNested
import Derived.RangeFuncBound
import Derived.RangeFuncCalls
import Derived.RangeFuncLeaves
import Derived.RangeFuncBox
import Derived.OwnWalkIn
import Derived.TacticsInMore
import Derived.LoopNIn
import Derived.LoopIn
import Derived.Lib.ConvBytes
/- Of a claim's texts, joined: Dxf Dxg Dxh Dxi Chp Chc Chq. No statement but in the last. -/
section
namespace Go.Proofs.YthcjledpjlpfaaaDoor
open Go.RowKit
set_option linter.unusedVariables false

theorem info_L6 : (Tryd.prog.info? 86).map (fun i => (i.zero, i.size, i.bytes)) = some (some (.agg #[.int .i64 0, .string ⟨#[]⟩]), 2, 24) := by kernel_rfl
def GeEnd (T : Tg) (rs : List Rg) (er : Int) (n : Nat) (w : World) (e : Ending) (w' : World) : Prop := ∃ A' c' gs', e = .returned (.tuple #[.slice A' n c', .int .i64 er]) ∧ GA w' T A' n c' gs' ∧ rgs gs' = rs ∧ Below w.heap.size w w'
theorem wrA_not {rs : List Rg} {x p : Int} (l : List UInt8) (h : rdE rs x p ≠ 0) : wrA rs x p l = (rs, rdE rs x p) := by
  unfold rdE at h ⊢
  unfold wrA
  cases hr : regN rs x with
  | none => rfl
  | some r =>
    simp only [hr] at h ⊢
    split
    · rfl
    · split
      · simp_all
      · rfl
theorem wrA_short {rs : List Rg} {x p : Int} {l : List UInt8} (h : rdE rs x p = 0) (hl : l.length ≠ 128) : wrA rs x p l = (rs, 1) := by
  obtain ⟨r, hr, hd, h0, h1, _⟩ := up_yes h
  unfold wrA
  simp [hr, hd, hasB, h0, h1, hl]
theorem wrA_yes {rs : List Rg} {x p : Int} {l : List UInt8} {r : Rg} (hr : regN rs x = some r) (hd : r.down = false) (h0 : 0 ≤ p) (h1 : p < r.size) (hl : l.length = 128) :
    wrA rs x p l = if r.left = 0 then (rs.set x.toNat (cntR r), 3) else (rs.set x.toNat (wrR (cntR r) p l), 0) := by
  unfold wrA
  have := (cntR_parts r hd).2.1
  simp [hr, hd, hasB, h0, h1, hl, this]
theorem cntR_at (r : Rg) (hd : r.down = false) : cntR r = { r with left := cntL r.left, down := decide (r.left = 0) } := by
  unfold cntR cntL
  split
  · rename_i h
    rw [h]
    simp
  · split
    · simp_all
    · simp_all
      rw [← hd]
theorem cell_two_new (w : World) (e : TypeId) (u0 u1 : Value) : ∀ j u, [u0, u1][j]? = some u → (w.alloc (.cells #[u0, u1] e)).cell? ((⟨w.heap.size, 0, none⟩ : Addr).add j) = some u := fun j u hj => by
  rw [add_plain, Nat.zero_add]
  have := (Has.made w e #[u0, u1]).cell j
  exact this.trans (by simpa using hj)
theorem own_keepG {w w' : World} {b s : Nat} {t : TypeId} {v : Value} {n : Nat} {xs : List Value} (h : w.ownsRow b t s v n xs) (hk : ∀ g, b ≤ g → v.ownBlock = some g → w'.heap[g]? = w.heap[g]?) : w'.ownsRow b t s v n xs := by
  refine ⟨h.1, ?_⟩
  rcases h.2 with h | ⟨g, cap, cur, rfl, h1, hh, h2⟩
  · exact .inl h
  · exact .inr ⟨g, cap, cur, rfl, h1, (hk g h1 rfl).trans hh, h2⟩
theorem own_min {w : World} {b s : Nat} {t : TypeId} {v : Value} {n : Nat} {xs : List Value} (h : w.ownsRow b t s v n xs) : ∀ g, v.ownBlock = some g → b ≤ g := fun g hg => by
  rcases h.2 with ⟨rfl, _⟩ | ⟨g', cap, cur, rfl, h1, _⟩
  · cases hg
  · obtain rfl : g' = g := by injection hg
    exact h1
theorem wr_next {w w1 W w2 w3 : World} {T : Tg} {v2 v3 : Value} {pA lA : Option Addr} {pn pc ln lc : Nat} {m : Int} {dn : Bool} {loose : List Wr} {p : Int} {l : List UInt8} {o : Obj}
    (hb1 : Below w.heap.size w w1) (hW : w1.alloc (.cells #[.slice pA pn pc, .slice lA ln lc, .int .i64 m, .bool dn] 76) = W) (h7 : w2.ownsRow (w1.heap.size + 1) 86 2 v2 ln (looseV loose)) (h8 : W.grownBy w2 none)
    (h9 : w3.ownsRow (w1.heap.size + 1) 86 2 v3 (ln + 1) (looseV loose ++ [.int .i64 p, txtV l])) (h10 : (w2.alloc o).grownBy w3 v2.ownBlock) (hT : ∀ g, w.heap.size ≤ g → T g = none) :
    ∃ A3 c3, v3 = .slice A3 (ln + 1) c3 ∧ w3.cell? ⟨w1.heap.size, 0, none⟩ = some (.slice pA pn pc) ∧ w3.cell? ⟨w1.heap.size, 1, none⟩ = some (.slice lA ln lc) ∧ w3.cell? ⟨w1.heap.size, 2, none⟩ = some (.int .i64 m) ∧ w3.cell? ⟨w1.heap.size, 3, none⟩ = some (.bool dn) ∧ w3.frozen? ⟨w1.heap.size, 1, none⟩ = false ∧
      SlT (w3.setCell ⟨w1.heap.size, 1, none⟩ (.slice A3 (ln + 1) c3)) T A3 (ln + 1) c3 (looseV (loose ++ [(p, l)])) ∧ Below w.heap.size w (w3.setCell ⟨w1.heap.size, 1, none⟩ (.slice A3 (ln + 1) c3)) := by
  subst hW
  have hs1 := hb1.size
  have hx0 : Has (w1.alloc (.cells #[.slice pA pn pc, .slice lA ln lc, .int .i64 m, .bool dn] 76)) w1.heap.size 76 #[.slice pA pn pc, .slice lA ln lc, .int .i64 m, .bool dn] := Has.made w1 _ _
  have hx3 : Has w3 w1.heap.size 76 #[.slice pA pn pc, .slice lA ln lc, .int .i64 m, .bool dn] := ((hx0.grown h8 (by intro e; cases e)).alloc o).grown h10 (fun e => by
    have := own_min h7 _ e.symm
    omega)
  obtain ⟨A3, c3, rfl⟩ := own_slw h9
  refine ⟨A3, c3, rfl, hx3.cell 0, hx3.cell 1, hx3.cell 2, hx3.cell 3, hx3.free 1, ?_, ?_⟩
  · rw [looseV_snoc]
    obtain ⟨A4, c4, hv, hs⟩ := SlT.of_own (T := T) (own_keepG (w' := w3.setCell ⟨w1.heap.size, 1, none⟩ (.slice A3 (ln + 1) c3)) h9 (fun g hg _ => setCell_heap_other w3 ⟨w1.heap.size, 1, none⟩ _ g (by show g ≠ w1.heap.size; omega))) (fun g hg => hT g (by omega))
    injection hv with h1 _ h2
    subst h1 h2
    exact hs
  · have hbW : Below w.heap.size w (w1.alloc (.cells #[.slice pA pn pc, .slice lA ln lc, .int .i64 m, .bool dn] 76)) := hb1.alloc hs1 _
    have hb2 := hbW.grown h8 hbW.size (fun k hk => by cases hk)
    have hb3 := (hb2.alloc hb2.size o).grown h10 (by have := hb2.size; simp; omega) (fun k hk => by have := own_min h7 _ hk; omega)
    exact hb3.setCell (p := ⟨w1.heap.size, 1, none⟩) hs1 _
section
variable {w : World} {T : Tg} {A : Option Addr} {n c : Nat} {gs : List Gx}
set_option maxRecDepth 100000 in
set_option maxHeartbeats 4000000 in
theorem r6Write_any (x p : Int) (l : List UInt8) (h : GA w T A n c gs) (hn : gs.length ≤ 1000) (hm : ∀ r ∈ rgs gs, r.loose.length ≤ 1000) (hT : ∀ g, w.heap.size ≤ g → T g = none) (hl : l.length ≤ 9223372036854775807) :
    Calls Tryd.prog 19 #[.slice A n c, .int .i64 x, .int .i64 p, txtV l] w (GeEnd T (wrA (rgs gs) x p l).1 (wrA (rgs gs) x p l).2 n w) := by
  have hup := r6up_any x p true h
  rw [upI_rd] at hup
  have HH := Lib.hid h
  have HUP := Lib.hid hup
  unfold txtV
  by_cases he : rdE (rgs gs) x p = 0
  · rw [he] at HUP
    by_cases hl8 : l.length = 128
    · obtain ⟨r, hr, hd, hp0, hp1, hpr⟩ := up_yes he
      rw [wrA_yes hr hd hp0 hp1 hl8]
      obtain ⟨k, g, rfl, hg, rfl, hk⟩ := regN_gs hr
      have hlm := hm g.r (List.mem_map.2 ⟨g, List.mem_of_getElem? hg, rfl⟩)
      have hgo := h.reg hg
      have hlen := h.len
      obtain ⟨b, off, rfl, c0, c1, c2, c3⟩ := h.at_ hg
      obtain ⟨r, pA, pc, lA, lc⟩ := g
      dsimp only at *
      rw [hd] at c3
      have hcr := cntR_at r hd
      have hok := hgo.ok
      have hlo := hgo.lo
      dsimp only at hok hlo
      obtain ⟨m, hmm⟩ : ∃ m, r.left = m := ⟨_, rfl⟩
      obtain ⟨ln, hln⟩ : ∃ ln, r.loose.length = ln := ⟨_, rfl⟩
      have hcnt := r6counts_any pA lA r.size pc ln lc m
      rw [hmm] at c2 hcr
      rw [hln] at c1 hlm
      have i2 : (0 : Int) ≤ (k : Int) := by omega
      have i3 : (k : Int) < (n : Int) := by omega
      have HC := Lib.hid (fun w1 => hcnt w1 (hmm ▸ hok.left0) (hmm ▸ hok.left1))
      have HN := Lib.hid hn
      have HK := Lib.hid hk
      have HT := Lib.hid hT
      have HG := Lib.hid hgo
      have HCR := Lib.hid hcr
      have HLN := Lib.hid hln
      have HP0 := Lib.hid hp0
      have HP1 := Lib.hid hp1
      have HL8 := Lib.hid hl8
      have e8 : ((l.length : Int) == 128) = true := by simp; omega
      have HM := Lib.hid hmm
      clear hcnt h hup he hm hr hd hg hk hgo hn hT hlen hcr hok hlo hmm hln hpr hp0 hp1 hl8
      by_cases h0 : m = 0
      · subst h0
        have HC0 : Hid (∀ w1, Calls Tryd.prog 38 #[.agg #[.slice pA r.size pc, .slice lA ln lc, .int .i64 0, .bool false]] w1 fun e w' => e = .returned (.tuple #[.agg #[.slice pA r.size pc, .slice lA ln lc, .int .i64 0, .bool true], .int .i64 3]) ∧ Below w1.heap.size w1 w') := Lib.hid (fun w1 => HC.out w1)
        have hnew : ∀ w' : World, Below w.heap.size w w' → Gok w' T ⟨cntR r, pA, pc, lA, lc⟩ := fun w' hb => ⟨by have := HG.out.pg.below hb; rw [HCR.out]; exact this, by have := HG.out.lo.below hb; rw [HCR.out]; exact this, cntR_ok HG.out.ok⟩
        have hset : rgs (gs.set k ⟨cntR r, pA, pc, lA, lc⟩) = (rgs gs).set (k : Int).toNat (cntR r) := rgs_set _ _ _
        rw [if_pos HM.out, ← hset]
        have HWI : Hid (∀ w1, Below w.heap.size w w1 → Calls Tryd.prog 39 #[.slice (some ⟨b, off, none⟩) n c, .int .i64 (k : Int), .agg #[.slice pA r.size pc, .slice lA ln lc, .int .i64 0, .bool true]] w1 (GaEnd T n (gs.set k ⟨cntR r, pA, pc, lA, lc⟩) w1)) := Lib.hid (fun w1 hb => by
          have := r6with_any k ⟨cntR r, pA, pc, lA, lc⟩ (HH.out.below hb) (hnew w1 hb) HK.out HN.out (fun g hg => HT.out g (Nat.le_trans hb.size hg))
          rw [HCR.out] at this ⊢
          dsimp only at this
          rw [HLN.out] at this
          exact this)
        clear HC hnew hset
        go_enter Tryd.func19, Tryd.ntmps19
        go_wp2_with (first
          | (go_at_call 37; (with_reducible refine HUP.out.mono ?_); rintro e w2 ⟨rfl, rfl⟩)
          | (go_at_call 38; (with_reducible refine (HC0.out _).mono ?_); rintro e w1 ⟨rfl, h1⟩; have B1 := Lib.hid h1; have HB : Hid (Below w.heap.size w (w1.alloc (.cells #[.slice pA r.size pc, .slice lA ln lc, .int .i64 0, .bool true] 76))) := Lib.hid (h1.alloc h1.size _); clear h1)
          | (go_at_call 39; (with_reducible refine (HWI.out _ HB.out).mono ?_); rintro e w5 ⟨A5, c5, rfl, h5, h6⟩; have Z5 := Lib.hid h5; have B5 := Lib.hid (below_step HB.out h6); clear h5 h6))
        go_ret2
        exact ⟨A5, c5, _, rfl, Z5.out, rfl, B5.out⟩
      · obtain ⟨mm, hmm⟩ : ∃ mm, cntL m = mm := ⟨_, rfl⟩
        have HC1 : Hid (∀ w1, Calls Tryd.prog 38 #[.agg #[.slice pA r.size pc, .slice lA ln lc, .int .i64 m, .bool false]] w1 fun e w' => e = .returned (.tuple #[.agg #[.slice pA r.size pc, .slice lA ln lc, .int .i64 mm, .bool false], .int .i64 0]) ∧ Below w1.heap.size w1 w') := Lib.hid (fun w1 => by
          have := HC.out w1
          rw [hmm, show decide (m = 0) = false by simpa using h0, show cntE m = 0 by simp [cntE, h0]] at this
          exact this)
        have hcr2 : cntR r = { r with left := mm, down := false } := by rw [HCR.out, hmm]; simp [h0]
        have hset : ∀ A3 c3, rgs (gs.set k ⟨wrR (cntR r) p l, pA, pc, A3, c3⟩) = (rgs gs).set (k : Int).toNat (wrR (cntR r) p l) := fun _ _ => rgs_set _ _ _
        rw [if_neg (by rw [HM.out]; exact h0)]
        have HSET := Lib.hid hset
        have HWI : Hid (∀ w1 A3 c3, Below w.heap.size w w1 → SlT w1 T A3 (ln + 1) c3 (looseV (r.loose ++ [(p, l)])) → Calls Tryd.prog 39 #[.slice (some ⟨b, off, none⟩) n c, .int .i64 (k : Int), .agg #[.slice pA r.size pc, .slice A3 (ln + 1) c3, .int .i64 mm, .bool false]] w1 (GaEnd T n (gs.set k ⟨wrR (cntR r) p l, pA, pc, A3, c3⟩) w1)) := Lib.hid (fun w1 A3 c3 hb hs => by
          have hgk : Gok w1 T ⟨wrR (cntR r) p l, pA, pc, A3, c3⟩ := by
            refine ⟨?_, ?_, wrR_ok (cntR_ok HG.out.ok) HP0.out (by rw [cntR_size]; exact HP1.out) HL8.out⟩
            · have := HG.out.pg.below hb
              rw [hcr2]
              exact this
            · rw [hcr2]
              simp only [wrR, List.length_append, HLN.out]
              exact hs
          have := r6with_any k ⟨wrR (cntR r) p l, pA, pc, A3, c3⟩ (HH.out.below hb) hgk HK.out HN.out (fun g hg => HT.out g (Nat.le_trans hb.size hg))
          rw [hcr2] at this ⊢
          simp only [wrR, List.length_append, HLN.out] at this
          exact this)
        obtain ⟨i0, hi, hz0, hz1, hz2⟩ := info_parts info_L6
        have HLI := Lib.hid (show ∀ u ∈ ([.int .i64 p, .string ⟨l.toArray⟩] : List Value), u.oneCell' = true from by intro u hu; simp at hu; rcases hu with rfl | rfl <;> rfl)
        have e0 : (m == 0) = false := by simpa using h0
        clear HC hset hcr2 hmm h0
        go_enter Tryd.func19, Tryd.ntmps19
        go_wp2_with (first
          | (go_at_call 37; (with_reducible refine HUP.out.mono ?_); rintro e w2 ⟨rfl, rfl⟩)
          | (go_at_call 38; (with_reducible refine (HC1.out _).mono ?_); rintro e w1 ⟨rfl, h1⟩; have B1 := Lib.hid h1; have HB : Hid (Below w.heap.size w (w1.alloc (.cells #[.slice pA r.size pc, .slice lA ln lc, .int .i64 mm, .bool false] 76))) := Lib.hid (h1.alloc h1.size _); have SL := Lib.hid (HG.out.below HB.out).lo; clear h1)
          | (at_builtin; refine wpList_append_src rfl _ _ 74 rfl (w1.heap.size + 1) 86 i0 _ 2 24 Tryd.underlying74 hi hz0 hz1 hz2 rfl (by decide) _ 0 [] rfl (World.ownsRow_nil _ _ _ _) lA ln lc (looseV r.loose) rfl (by rw [looseV_len, HLN.out]) SL.out.nil (by have := SL.out.room; rw [← HLN.out]; exact this) SL.out.reads (looseV_one r.loose) (by omega) (by unfold maxLen; omega) (by simp) ?_; intro v2 w2 h7 h8; simp only [Nat.zero_add, List.nil_append] at h7; have O2 := Lib.hid h7; have K2 := Lib.hid (show (w1.alloc (.cells #[.slice pA r.size pc, .slice lA ln lc, .int .i64 mm, .bool false] 76)).grownBy w2 none from h8); clear h7 h8)
          | (at_builtin; refine wpList_append_own _ rfl _ _ 74 rfl (w1.heap.size + 1) 86 i0 _ 2 24 Tryd.underlying74 hi hz0 hz1 hz2 rfl (by decide) _ ln _ rfl (O2.out.alloc _) ⟨w2.heap.size, 0, none⟩ 1 1 [.int .i64 p, .string ⟨l.toArray⟩] rfl rfl ?_ ?_ ?_ ?_ ?_ ?_; (exact cell_two_new _ _ _ _); (exact HLI.out); (unfold maxLen; omega); (omega); (have hq := K2.out.size; simp at hq; simp; omega); intro v3 w3 h9 h10 _; obtain ⟨A3, c3, rfl, d0, d1, d2, d3, f1, h11, h12⟩ := wr_next B1.out rfl O2.out K2.out h9 h10 HT.out; have S3 := Lib.hid h11; have B3 := Lib.hid h12; clear h9 h10 h11 h12)
          | (go_at_call 39; (with_reducible refine (HWI.out _ _ _ B3.out S3.out).mono ?_); rintro e w5 ⟨A5, c5, rfl, h5, h6⟩; have Z5 := Lib.hid h5; have B5 := Lib.hid (below_step B3.out h6); clear h5 h6))
        go_ret2
        exact ⟨A5, c5, _, rfl, Z5.out, HSET.out _ _, B5.out⟩
    · rw [wrA_short he hl8]
      have e1 : ((l.length : Int) == 128) = false := by simp; omega
      clear hup h hm hT hn he hl8
      go_enter Tryd.func19, Tryd.ntmps19
      go_wp2_with (go_at_call 37; (with_reducible refine HUP.out.mono ?_); rintro e w2 ⟨rfl, rfl⟩)
      go_ret2
      exact ⟨A, c, gs, rfl, HH.out, rfl, Below.refl _ _⟩
  · rw [wrA_not l he]
    obtain ⟨er, her⟩ : ∃ er, rdE (rgs gs) x p = er := ⟨_, rfl⟩
    rw [her] at HUP he
    rw [her]
    have e1 : (er == 0) = false := by simpa using he
    clear hup h hm hT hn he her
    go_enter Tryd.func19, Tryd.ntmps19
    go_wp2_with (go_at_call 37; (with_reducible refine HUP.out.mono ?_); rintro e w2 ⟨rfl, rfl⟩)
    go_ret2
    exact ⟨A, c, gs, rfl, HH.out, rfl, Below.refl _ _⟩
end

end Go.Proofs.YthcjledpjlpfaaaDoor
end

section
namespace Go.Proofs.YthcjledpjlpfaaaDoor
open Go.RowKit
set_option linter.unusedVariables false

theorem str_info : (Tryd.prog.info? 9).map (fun i => (i.zero, i.size, i.bytes)) = some (some (.string ⟨#[]⟩), 1, 16) := by kernel_rfl
section
variable {w : World} {T : Tg}
theorem SlT.wr {A : Option Addr} {n c : Nat} {l : List Wr} (h : SlT w T A n c (looseV l)) {q : Nat} {x : Wr} (hq : l[q]? = some x) : ∃ b off, A = some ⟨b, off, none⟩ ∧ w.cell? ⟨b, off + q * 2, none⟩ = some (.int .i64 x.1) ∧ w.cell? ⟨b, off + q * 2 + 1, none⟩ = some (txtV x.2) := by
  have hl := (List.getElem?_eq_some_iff.1 hq).1
  obtain ⟨b, off, hA, hc⟩ := h.reads (by rw [looseV_len]; omega)
  obtain ⟨h1, h2⟩ := looseV_at l q x hq
  exact ⟨b, off, hA, hc _ _ h1, hc _ _ h2⟩
theorem SlT.away {A : Option Addr} {n c : Nat} {xs : List Value} (h : SlT w T A n c xs) {p : Addr} (hp : ∀ a, A = some a → a.block ≠ p.block) (u : Value) : SlT (w.setCell p u) T A n c xs :=
  ⟨fun hx => by
    obtain ⟨g, off, hA, hc⟩ := h.reads hx
    exact ⟨g, off, hA, fun j v hj => (cell_heap (p := ⟨g, off + j, none⟩) (setCell_heap_other w p u g (hp _ hA))).trans (hc j v hj)⟩, h.un, h.room, h.most, h.nil⟩
variable {A : Option Addr} {n c : Nat} {gs : List Gx}
end

end Go.Proofs.YthcjledpjlpfaaaDoor
end

section
namespace Go.Proofs.YthcjledpjlpfaaaDoor
open Go.RowKit
set_option linter.unusedVariables false

theorem gsV_snoc (gs : List Gx) (g : Gx) : gsV (gs ++ [g]) = gsV gs ++ g.cells := by simp [gsV]
theorem Row.kept_own {w w' : World} {t e : TypeId} {lo b s n : Nat} {A : Option Addr} {v : Value} {xs ys : List Value} (h : Row w t lo A xs) (ho : w.ownsRow b e s v n ys) (hne : t ≠ e) (hg : w.grownBy w' v.ownBlock) : Row w' t lo A xs :=
  h.keep_ fun g cs _ hh => hh.grown hg (fun hq => by
    rcases ho.2 with ⟨rfl, _⟩ | ⟨g', cap, cur, rfl, _, hc, _⟩
    · cases hq
    · obtain rfl : g = g' := by injection hq
      exact hh.apart (show Has w g e cur from hc) hne rfl)
theorem SlT.of_row {w w' : World} {T : Tg} {t : TypeId} {lo n c : Nat} {A : Option Addr} {xs : List Value} (h : SlT w T A n c xs) (hr : Row w' t lo A xs) : SlT w' T A n c xs := ⟨hr.reads, h.un, h.room, h.most, h.nil⟩
structure Cq (w : World) (T : Tg) (B : Nat) (g : Gx) : Prop where
  pg : SlT w T g.pA g.r.size g.pc ((pagesL g.r.syn g.r.size).map txtV)
  row : Row w 9 B g.pA ((pagesL g.r.syn g.r.size).map txtV)
  la : g.lA = none
  lc : g.lc = 0
  lo : g.r.loose = []
  ok : Rok g.r
theorem Cq.gok {w : World} {T : Tg} {B : Nat} {g : Gx} (h : Cq w T B g) : Gok w T g := by
  refine ⟨h.pg, ?_, h.ok⟩
  rw [h.la, h.lc, h.lo]
  exact SlT.none_ w T
structure Cr (w0 : World) (T : Tg) (rs : List Rg) (k : Nat) (v : Value) (gs : List Gx) (w : World) : Prop where
  row : w.ownsRow w0.heap.size 76 4 v k (gsV gs)
  rg : rgs gs = rs.take k
  bel : Below w0.heap.size w0 w
  each : ∀ g ∈ gs, Cq w T w0.heap.size g
section
variable {w0 w w' : World} {T : Tg} {rs : List Rg} {k : Nat} {v : Value} {gs : List Gx}
theorem Cr.start (w0 : World) (T : Tg) (rs : List Rg) : Cr w0 T rs 0 (.slice none 0 0) [] w0 := ⟨World.ownsRow_nil _ _ _ _, by simp [rgs], Below.refl _ _, by simp⟩
theorem Cr.below (h : Cr w0 T rs k v gs w) (hb : Below w.heap.size w w') : Cr w0 T rs k v gs w' :=
  ⟨own_keepG h.row (fun g _ hg => hb.block g (h.row.lt g hg).2), h.rg, below_step h.bel hb, fun g hg => by
    have := h.each g hg
    exact ⟨this.pg.below hb, this.row.below hb, this.la, this.lc, this.lo, this.ok⟩⟩
theorem Cr.step (h : Cr w0 T rs k v gs w) (o : Obj) {v4 : Value} {w4 : World} {g' : Gx} (hg' : Cq w T w0.heap.size g') (hrs : rs[k]? = some g'.r) (h9 : w4.ownsRow w0.heap.size 76 4 v4 (k + 1) (gsV gs ++ g'.cells)) (h10 : (w.alloc o).grownBy w4 v.ownBlock) :
    Cr w0 T rs (k + 1) v4 (gs ++ [g']) w4 := by
  have ho : (w.alloc o).ownsRow w0.heap.size 76 4 v k (gsV gs) := h.row.alloc o
  have hs := h.bel.size
  have hrow : ∀ {lo A xs}, Row w 9 lo A xs → Row w4 9 lo A xs := fun hr => (hr.alloc o).kept_own ho (by decide) h10
  refine ⟨by rw [gsV_snoc]; exact h9, ?_, below_ownR (h.bel.alloc hs o) h10 ho (by simp; omega), fun g hg => ?_⟩
  · rw [List.take_add_one, hrs, ← h.rg]
    simp [rgs]
  · rcases List.mem_append.1 hg with hg | hg
    · have := h.each g hg
      exact ⟨this.pg.of_row (hrow this.row), hrow this.row, this.la, this.lc, this.lo, this.ok⟩
    · obtain rfl := List.mem_singleton.1 hg
      exact ⟨hg'.pg.of_row (hrow hg'.row), hrow hg'.row, hg'.la, hg'.lc, hg'.lo, hg'.ok⟩
theorem Cr.done (h : Cr w0 T rs k v gs w) (hk : k = rs.length) (hT : ∀ g, w0.heap.size ≤ g → T g = none) : ∃ A c, v = .slice A k c ∧ GA w T A k c gs ∧ rgs gs = rs := by
  obtain ⟨A, c, hv, hs⟩ := SlT.of_own (T := T) h.row hT
  have hr := h.rg
  rw [List.take_of_length_le (Nat.le_of_eq hk.symm)] at hr
  exact ⟨A, c, hv, ⟨by rw [hk, ← hr, rgs_len], hs, fun g hg => (h.each g hg).gok⟩, hr⟩
end

theorem cell_four_new (w : World) (e : TypeId) (u0 u1 u2 u3 : Value) : ∀ j u, [u0, u1, u2, u3][j]? = some u → (w.alloc (.cells #[u0, u1, u2, u3] e)).cell? ((⟨w.heap.size, 0, none⟩ : Addr).add j) = some u := fun j u hj => by
  rw [add_plain, Nat.zero_add]
  have := (Has.made w e #[u0, u1, u2, u3]).cell j
  exact this.trans (by simpa using hj)
section
variable {w : World} {T : Tg} {A : Option Addr} {n c : Nat} {gs : List Gx}
end

end Go.Proofs.YthcjledpjlpfaaaDoor
end

section
namespace Go.Proofs.YthcjledpjlpfaaaDoor
open Go.RowKit
set_option linter.unusedVariables false

theorem zero_cells : madeCells #[.int .u8 0] 128 = (zeros.map byteV).toArray := by
  rw [← halfD_zero 128 0]
  rfl
theorem pagesL_fresh (m : Nat) : (pagesL (fresh6 m).syn m).map txtV = List.replicate m (txtV zeros) := by
  apply List.ext_getElem?
  intro i
  by_cases h : i < m
  · rw [List.getElem?_map, pagesL_at _ h, List.getElem?_replicate, if_pos h]
    rfl
  · rw [List.getElem?_eq_none (by simp [pagesL_len]; omega), List.getElem?_eq_none (by simp; omega)]
theorem nw_next {wo wr w3 : World} {vA : Option Addr} {j vk g cap : Nat} {za ca : Array Value} {xs ys : List Value} {c1 c2 c3 : Value} (hB : Below wo.heap.size wo wr) (hx : Has wr wo.heap.size 76 #[.slice vA j vk, c1, c2, c3])
    (ho : ((wr.drew.alloc (.cells za 5)).alloc (.cells ca 9)).ownsRow (wo.heap.size + 1) 9 1 (.slice vA j vk) j xs)
    (h7 : w3.ownsRow (wo.heap.size + 1) 9 1 (.slice (some ⟨g, 0, none⟩) (j + 1) cap) (j + 1) ys) (h8 : ((wr.drew.alloc (.cells za 5)).alloc (.cells ca 9)).grownBy w3 (Value.slice vA j vk).ownBlock) :
    ((∃ u0, w3.cell? ⟨wo.heap.size, 0, none⟩ = some u0) ∧ w3.frozen? ⟨wo.heap.size, 0, none⟩ = false) ∧ Has (w3.setCell ⟨wo.heap.size, 0, none⟩ (.slice (some ⟨g, 0, none⟩) (j + 1) cap)) wo.heap.size 76 #[.slice (some ⟨g, 0, none⟩) (j + 1) cap, c1, c2, c3] ∧
      (w3.setCell ⟨wo.heap.size, 0, none⟩ (.slice (some ⟨g, 0, none⟩) (j + 1) cap)).ownsRow (wo.heap.size + 1) 9 1 (.slice (some ⟨g, 0, none⟩) (j + 1) cap) (j + 1) ys ∧ Below wo.heap.size wo (w3.setCell ⟨wo.heap.size, 0, none⟩ (.slice (some ⟨g, 0, none⟩) (j + 1) cap)) := by
  have hx2 : Has ((wr.drew.alloc (.cells za 5)).alloc (.cells ca 9)) wo.heap.size 76 #[.slice vA j vk, c1, c2, c3] := (hx.drew.alloc _).alloc _
  have hx3 := hx2.grown h8 (fun e => by
    have := own_min ho _ e.symm
    omega)
  have hs := hB.size
  have hb2 : Below wo.heap.size wo ((wr.drew.alloc (.cells za 5)).alloc (.cells ca 9)) := (hB.drew.alloc hs _).alloc (by have := hs; simp; omega) _
  have hb3 := hb2.grown h8 hb2.size (fun k hk => by have := own_min ho _ hk; omega)
  refine ⟨⟨⟨_, hx3.cell 0⟩, hx3.free 0⟩, ?_, own_keepG h7 (fun g hg _ => setCell_heap_other w3 ⟨wo.heap.size, 0, none⟩ _ g (by show g ≠ wo.heap.size; omega)), hb3.setCell (p := ⟨wo.heap.size, 0, none⟩) (Nat.le_refl _) _⟩
  have := hx3.store 0 (.slice (some ⟨g, 0, none⟩) (j + 1) cap)
  simpa using this
theorem step_make {P : Program} {ops : Array Oper} {o : Oper} {a : Act} {w w' : World} {K : Act → World → Prop} {Q : Exit → Act → World → Prop} {E : Prop} (hgd : o.guard = none) (t : TypeId) (x y : Operand) (ho : o.op = .makeSlice t x y) (p q : Value) (hx : a.eval x = p) (hy : a.eval y = q) (u : Value)
    (hrun : (Instr.makeSlice t p q).run P w = .ok u w') (h : K (a.put o.dst u) w') : if Region.wanted o (yielded ops a.tmps) = true then Oper.wp P o a w K Q else E := by
  have hw : Region.wanted o (yielded ops a.tmps) = true := by simp [Region.wanted, hgd]
  rw [if_pos hw]
  unfold Oper.wp execOp
  simp only [ho, hx, hy, Sem.run_bind, hrun, Result.andThen_ok, Sem.run_pure]
  exact h
theorem step_conv {P : Program} {ops : Array Oper} {o : Oper} {a : Act} {w w' : World} {K : Act → World → Prop} {Q : Exit → Act → World → Prop} {E : Prop} (hgd : o.guard = none) (t t2 : TypeId) (x : Operand) (ho : o.op = .convert t t2 x) (p : Value) (hx : a.eval x = p) (u : Value)
    (hrun : (convert t t2 p).run P w = .ok u w') (h : K (a.put o.dst u) w') : if Region.wanted o (yielded ops a.tmps) = true then Oper.wp P o a w K Q else E := by
  have hw : Region.wanted o (yielded ops a.tmps) = true := by simp [Region.wanted, hgd]
  rw [if_pos hw]
  unfold Oper.wp execOp
  simp only [ho, hx, Sem.run_bind, hrun, Result.andThen_ok, Sem.run_pure]
  exact h
def NwEnd (T : Tg) (ls : List Int) (n : Nat) (w : World) (e : Ending) (w' : World) : Prop :=
  Below w.heap.size w w' ∧ if newB ls then ∃ A' c' gs', e = .returned (.tuple #[.slice A' n c', .int .i64 0]) ∧ GA w' T A' n c' gs' ∧ rgs gs' = ls.map (fun x => fresh6 x.toNat) else e = .returned (.tuple #[.slice none 0 0, .int .i64 1])
section
variable {w : World} {T : Tg}
set_option maxRecDepth 100000 in
set_option maxHeartbeats 8000000 in
theorem r6New_any (A : Option Addr) (n c : Nat) (ls : List Int) (h : Ints6 w A n ls) (hn : n ≤ 1000) (hT : ∀ g, w.heap.size ≤ g → T g = none) :
    Calls Tryd.prog 17 #[.slice A n c] w (NwEnd T ls n w) := by
  obtain ⟨i0, hi, hz0, hz1, hz2⟩ := info_parts info_G6
  obtain ⟨s0, hs, hsz0, hsz1, hsz2⟩ := info_parts str_info
  have HH := Lib.hid h
  have HT := Lib.hid hT
  have HLEN := Lib.hid h.len
  have hmx : Tryd.prog.follows .mixedOrders = true := by kernel_rfl
  clear h hT
  go_enter Tryd.func17, Tryd.ntmps17
  go_wp2
  go_loopw [4, 5] (fun v i wr => ∃ (k : Nat) (gs' : List Gx), k ≤ n ∧ i = .int .i64 (k : Int) ∧ Cr w T (ls.map (fun x => fresh6 x.toNat)) k v gs' wr ∧ ((ls.take k).all szB = true)) (fun _ i _ => n - (intOf i).toNat)
  case atStart => exact ⟨0, [], Nat.zero_le _, rfl, Cr.start w T _, by simp⟩
  case round =>
    obtain ⟨k, gs', hk0, rfl, hr, hall⟩ := hrel
    have HR := Lib.hid hr
    have HALL := Lib.hid hall
    clear hr hall
    by_cases hlt : k < n
    · obtain ⟨x, hx⟩ : ∃ x, ls[k]? = some x := ⟨_, List.getElem?_eq_getElem (by rw [← HLEN.out]; exact hlt)⟩
      obtain ⟨b, off, rfl, hc0⟩ := HH.out.at_ hx
      have hc := cellB hc0 HR.out.bel
      have i1 : (0 : Int) ≤ (k : Int) := by omega
      have i2 : (k : Int) < (n : Int) := by omega
      cases hsz : szB x with
      | false =>
        have hnb : newB ls = false := by
          unfold newB
          rw [show ls.all szB = false from by
            rw [Bool.eq_false_iff]
            intro hq
            rw [List.all_eq_true] at hq
            have := hq x (List.mem_of_getElem? hx)
            rw [hsz] at this
            cases this]
          simp
        have HNB := Lib.hid hnb
        unfold szB at hsz
        by_cases h1 : x < 1
        · clear hsz hx hnb hc0
          go_wp2
          go_ret2
          refine ⟨HR.out.bel, ?_⟩
          rw [HNB.out]
          rfl
        · have h2 : 1000 < x := by
            simp at hsz
            omega
          clear hsz hx hnb hc0
          go_wp2
          go_ret2
          refine ⟨HR.out.bel, ?_⟩
          rw [HNB.out]
          rfl
      | true =>
        have hsx := hsz
        unfold szB at hsz
        simp at hsz
        obtain ⟨m, rfl⟩ : ∃ m : Nat, x = (m : Int) := ⟨x.toNat, by omega⟩
        have HALL2 : Hid ((ls.take (k + 1)).all szB = true) := Lib.hid (by
          rw [List.take_add_one, hx, List.all_append, HALL.out]
          simpa using hsx)
        have HRS : Hid ((ls.map (fun x => fresh6 x.toNat))[k]? = some (fresh6 m)) := Lib.hid (by rw [List.getElem?_map, hx]; rfl)
        have n1 : ¬ (m : Int) < 1 := by omega
        have n2 : ¬ (1000 : Int) < (m : Int) := by omega
        have m1 : 1 ≤ m := by omega
        have m2 : m ≤ 1000 := by omega
        have HOK := Lib.hid (fresh6_ok m1 m2)
        obtain ⟨wo, hwo⟩ : ∃ wo : World, wo = wr := ⟨_, rfl⟩
        subst hwo
        have hst : Has (wo.alloc (.cells #[.slice none 0 0, .slice none 0 0, .int .i64 (-1), .bool false] 76)) wo.heap.size 76 #[.slice none 0 0, .slice none 0 0, .int .i64 (-1), .bool false] := Has.made wo _ _
        have HST := Lib.hid hst
        have HBW : Hid (Below wo.heap.size wo (wo.alloc (.cells #[.slice none 0 0, .slice none 0 0, .int .i64 (-1), .bool false] 76))) := Lib.hid ((Below.refl _ wo).alloc (Nat.le_refl _) _)
        clear hst hsx hx hsz
        go_wp2
        go_loopw [7] (fun i wr => ∃ (j : Nat) (vA : Option Addr) (vk : Nat), j ≤ m ∧ i = .int .i64 (j : Int) ∧ Has wr wo.heap.size 76 #[.slice vA j vk, .slice none 0 0, .int .i64 (-1), .bool false] ∧ wr.ownsRow (wo.heap.size + 1) 9 1 (.slice vA j vk) j (List.replicate j (txtV zeros)) ∧ Below wo.heap.size wo wr) (fun i _ => m - (intOf i).toNat)
        case atStart => exact ⟨0, none, 0, Nat.zero_le _, rfl, HST.out, World.ownsRow_nil _ _ _ _, HBW.out⟩
        case round =>
          obtain ⟨j, vA, vk, hj0, rfl, hx, ho, hb⟩ := hrel
          have HX := Lib.hid hx
          have HO1 := Lib.hid ho
          have HB := Lib.hid hb
          have e0 := cellB (cellB hc (Below.refl _ wo)) hb
          by_cases hjm : j < m
          · have hmk := make_bytes6 128 (by omega) wr.drew
            rw [zero_cells] at hmk
            have hcv := str_reads (n := 128) (c := 128) (l := zeros) (w := wr.drew.alloc (.cells (zeros.map byteV).toArray 5)) (A := some ⟨wr.heap.size, 0, none⟩) rfl (fun _ => ⟨wr.heap.size, 0, rfl, fun q u hq => by
              have := (Has.made wr.drew 5 (zeros.map byteV).toArray).cell (0 + q)
              exact this.trans (by simpa using hq)⟩)
            have HREP : Hid (List.replicate (j + 1) (txtV zeros) = List.replicate j (txtV zeros) ++ [.string ⟨zeros.toArray⟩]) := Lib.hid List.replicate_succ'
            generalize (zeros.map byteV).toArray = za at hmk hcv
            obtain ⟨zs, hzs⟩ : ∃ zs : ByteArray, (⟨zeros.toArray⟩ : ByteArray) = zs := ⟨_, rfl⟩
            rw [hzs] at hcv HREP
            have hC1 : (fun w' : World => w'.cell? ⟨wo.heap.size, 0, none⟩ = some (.slice vA j vk)) wr.drew := hx.cell 0
            have hC2 : (fun w' : World => w'.cell? ⟨wo.heap.size, 0, none⟩ = some (.slice vA j vk)) (wr.drew.alloc (.cells za 5)) := (hx.drew.alloc (.cells za 5)).cell 0
            have hC3 : (fun w' : World => w'.cell? ⟨wo.heap.size, 0, none⟩ = some (.slice vA j vk)) ((wr.drew.alloc (.cells za 5)).alloc (.cells #[.string zs] 9)) := ((hx.drew.alloc (.cells za 5)).alloc (.cells #[.string zs] 9)).cell 0
            have HO : Hid (((wr.drew.alloc (.cells za 5)).alloc (.cells #[.string zs] 9)).ownsRow (wo.heap.size + 1) 9 1 (.slice vA j vk) j (List.replicate j (txtV zeros))) := Lib.hid (((own_keepG (w' := wr.drew) ho (fun _ _ _ => rfl)).alloc _).alloc _)
            have HCL : Hid (∀ q u, [Value.string zs][q]? = some u → ((wr.drew.alloc (.cells za 5)).alloc (.cells #[.string zs] 9)).cell? ((⟨wr.heap.size + 1, 0, none⟩ : Addr).add q) = some u) := Lib.hid (by
              have := cell_one_new (wr.drew.alloc (.cells za 5)) (.string zs) 9
              simpa using this)
            have HONE : Hid (∀ u ∈ ([.string zs] : List Value), u.oneCell' = true) := Lib.hid (by intro u hu; simp at hu; subst hu; rfl)
            have HBA : Hid (wo.heap.size + 1 ≤ ((wr.drew.alloc (.cells za 5)).alloc (.cells #[.string zs] 9)).heap.size) := Lib.hid (by have := hb.size; simp; omega)
            clear hx ho hb hzs
            go_wp2
            rename_i K hK
            refine wp_heldQ (fun w' : World => w'.cell? ⟨wo.heap.size, 0, none⟩ = some (.slice vA j vk)) 5 hmx ?_
            refine wpAnyK_pure (i := 0) (v := .pointer (some ⟨wo.heap.size, 0, none⟩)) rfl (by kernel_rfl) (by kernel_rfl) (by kernel_rfl) (by decide) (fun _ _ _ h => h) (Or.inl ⟨by rfl, ?_⟩) (.inr hC1) ?_
            · intro w6 _
              go_simp
            simp only [Act.put, List.setIfInBounds_toArray, List.set_cons_zero, List.set_cons_succ, List.getElem_toArray, List.getElem_cons_zero]
            refine wpAnyK_take (i := 1) (v := .slice vA j vk) rfl (by kernel_rfl) (by kernel_rfl) (by kernel_rfl) (by kernel_rfl) (by decide) (by kernel_rfl) (fun _ _ _ h => h) (Or.inl ⟨by rfl, ?_⟩) hC1 ?_
            · rintro w6 c1
              go_simp
            simp only [Act.put, List.setIfInBounds_toArray, List.set_cons_zero, List.set_cons_succ, List.getElem_toArray, List.getElem_cons_zero, List.getElem_cons_succ]
            refine wpAnyK_one (i := 2) (by kernel_rfl) rfl (fun K5 hK5 => ?_)
            refine step_make rfl 32 _ _ rfl _ _ rfl rfl _ hmk ?_
            refine hK5.out _ _ (.inr hC2) ?_
            clear hK5 K5
            simp only [Act.put, List.setIfInBounds_toArray, List.set_cons_zero, List.set_cons_succ, List.getElem_toArray, List.getElem_cons_zero, List.getElem_cons_succ]
            refine wpAnyK_one (i := 3) (by kernel_rfl) rfl (fun K5 hK5 => ?_)
            refine step_conv rfl 32 9 _ rfl _ rfl _ hcv ?_
            refine hK5.out _ _ (.inr hC2) ?_
            clear hK5 K5
            simp only [Act.put, List.setIfInBounds_toArray, List.set_cons_zero, List.set_cons_succ, List.getElem_toArray, List.getElem_cons_zero, List.getElem_cons_succ]
            refine wpAnyK_one (i := 4) (by kernel_rfl) rfl (fun K5 hK5 => ?_)
            go_simp
            refine hK5.out _ _ (.inr hC3) ?_
            clear hK5 K5
            refine wpAnyK_one (i := 5) (by kernel_rfl) rfl (fun K5 hK5 => ?_)
            refine step_append_lies _ rfl (.tmp 36) (.tmp 39) 29 rfl (wo.heap.size + 1) 9 s0 _ 1 16 Tryd.underlying29 hs hsz0 hsz1 hsz2 rfl (by decide) (.slice vA j vk) j _ rfl HO.out ⟨wr.heap.size + 1, 0, none⟩ 1 1 [.string zs] rfl rfl HCL.out HONE.out (by omega) (by unfold maxLen; omega) (by omega) HBA.out _ rfl ?_
            intro g cap w3 h7 h8 _ _
            obtain ⟨f0, hx3, ho3, hb3⟩ := nw_next HB.out HX.out HO.out h7 h8
            have X3 := Lib.hid hx3
            have O3 := Lib.hid ho3
            have B3 := Lib.hid hb3
            obtain ⟨u0, f1⟩ := f0.1
            have f2 := f0.2
            clear h7 h8 hx3 ho3 hb3 f0
            refine hK5.out _ _ (.inl (by kernel_rfl)) ?_
            clear hK5 K5
            simp only [Act.put, List.setIfInBounds_toArray, List.set_cons_zero, List.set_cons_succ, List.getElem_toArray, List.getElem_cons_zero, List.getElem_cons_succ]
            refine wpAnyK_pure (i := 6) (v := .pointer (some ⟨wo.heap.size, 0, none⟩)) rfl (by kernel_rfl) (by kernel_rfl) (by kernel_rfl) (by decide) (fun _ _ _ h => h) (Or.inl ⟨by rfl, ?_⟩) (.inl (by kernel_rfl)) ?_
            · intro w6 _
              go_simp
            simp only [Act.put, List.setIfInBounds_toArray, List.set_cons_zero, List.set_cons_succ, List.getElem_toArray, List.getElem_cons_zero, List.getElem_cons_succ]
            refine wpAnyK_one (i := 7) (by kernel_rfl) rfl (fun K5 hK5 => ?_)
            go_simp
            refine hK5.out _ _ (.inl (by kernel_rfl)) ?_
            clear hK5 K5
            refine wpAnyK_done (by kernel_rfl) ?_ _
            refine hK _ _ ?_
            go_wp2
            go_roundw
            case rel => exact ⟨j + 1, _, _, by omega, by go_num, X3.out, by rw [HREP.out]; exact O3.out, B3.out⟩
            case measure => simp [intOf]; omega
          · obtain rfl : j = m := by omega
            have g0 := hx.cell 0
            have g1 := hx.cell 1
            have g2 := hx.cell 2
            have g3 := hx.cell 3
            simp only [List.getElem?_toArray, List.getElem?_cons_succ, List.getElem?_cons_zero] at g0 g1 g2 g3
            obtain ⟨A2, c2, hv2, hs2⟩ := SlT.of_own (T := T) ho (fun g hg => HT.out g (by have := HR.out.bel.size; omega))
            have hrow2 := (Row.of_own ho).low (show w.heap.size ≤ wo.heap.size + 1 by have := HR.out.bel.size; omega)
            injection hv2 with hv2 _ hc2
            subst hv2 hc2
            have hok := HOK.out
            rw [← pagesL_fresh] at hs2 hrow2
            have HQ : Hid (Cq wr T w.heap.size ⟨fresh6 j, vA, vk, none, 0⟩) := Lib.hid ⟨hs2, hrow2, rfl, rfl, rfl, hok⟩
            have HRW := Lib.hid (HR.out.below hb)
            have HSZ : Hid (w.heap.size ≤ wr.heap.size) := Lib.hid (by have := HR.out.bel.size; have := hb.size; omega)
            clear hx ho hb hs2 hrow2 hok
            go_wp2_with (at_builtin; refine wpList_append_own _ rfl _ _ 41 rfl w.heap.size 76 i0 _ 4 64 Tryd.underlying41 hi hz0 hz1 hz2 rfl (by decide) _ k _ rfl (HRW.out.row.alloc _) ⟨wr.heap.size, 0, none⟩ 1 1 [.slice vA j vk, .slice none 0 0, .int .i64 (-1), .bool false] rfl rfl ?_ ?_ ?_ ?_ ?_ ?_; (exact cell_four_new _ _ _ _ _ _); (intro u hu; simp at hu; rcases hu with rfl | rfl | rfl | rfl <;> rfl); (unfold maxLen; omega); (omega); (have hq := HSZ.out; simp; omega); intro v4 w4 h9 h10 _; have C4 := Lib.hid (HRW.out.step _ (g' := ⟨fresh6 j, vA, vk, none, 0⟩) HQ.out HRS.out h9 h10); clear h9 h10)
            go_roundw
            case rel => exact ⟨k + 1, _, by omega, by go_num, C4.out, HALL2.out⟩
            case measure => simp [intOf]; omega
    · obtain rfl : k = n := by omega
      have hls : ls.all szB = true := by
        have := HALL.out
        rwa [List.take_of_length_le (Nat.le_of_eq HLEN.out.symm)] at this
      by_cases h1 : k < 1
      · have HNB : Hid (newB ls = false) := Lib.hid (by unfold newB; rw [← HLEN.out]; simp; omega)
        clear hls
        have e1 : ((k : Int) < 1) := by omega
        go_wp2
        go_ret2
        refine ⟨HR.out.bel, ?_⟩
        rw [HNB.out]
        rfl
      · have e1 : ¬ ((k : Int) < 1) := by omega
        by_cases h2 : 64 < k
        · have HNB : Hid (newB ls = false) := Lib.hid (by unfold newB; rw [← HLEN.out]; simp; omega)
          clear hls
          have e2 : (64 : Int) < (k : Int) := by omega
          go_wp2
          go_ret2
          refine ⟨HR.out.bel, ?_⟩
          rw [HNB.out]
          rfl
        · have HNB : Hid (newB ls = true) := Lib.hid (by unfold newB; rw [← HLEN.out, hls]; simp; omega)
          have e2 : ¬ (64 : Int) < (k : Int) := by omega
          clear hls
          obtain ⟨A', c', hv, hga, hrg⟩ := HR.out.done (by rw [List.length_map]; exact HLEN.out) HT.out
          subst hv
          have HGA := Lib.hid hga
          have HRG := Lib.hid hrg
          have HBE := Lib.hid HR.out.bel
          clear hga hrg
          go_wp2
          go_ret2
          refine ⟨HBE.out, ?_⟩
          rw [HNB.out]
          exact ⟨A', c', gs', rfl, HGA.out, HRG.out⟩
end

end Go.Proofs.YthcjledpjlpfaaaDoor
end

section
namespace Go.Proofs.YthcjledpjlpfaaaDoor
open Go.RowKit
set_option linter.unusedVariables false

theorem lies_one9 (w : World) (u : Value) (t : TypeId) : ∀ j y, ([u] : List Value)[j]? = some y → (w.alloc (.cells #[u] t)).cell? ((⟨w.heap.size, 0, none⟩ : Addr).add j) = some y := fun j y hj => by
  rw [add_plain, (Has.made w t #[u]).cell, Nat.zero_add]
  simpa using hj
theorem cells_of9 {w : World} {B : Nat} {q : List Hd} (hq : q.length ≤ 1000) (h : Has w B 32 (q.map Hd.v).toArray) (he : ∀ x ∈ q, Arg w x.a x.n x.c x.l) : CellsA w (some ⟨B, 0, none⟩) q.length q.length q :=
  ⟨rfl, fun _ => ⟨B, 0, rfl, fun j u hj => by rw [h.cell, Nat.zero_add]; simpa using hj⟩, he, Nat.le_refl _, by unfold maxLen; omega, fun h => by cases h⟩


end Go.Proofs.YthcjledpjlpfaaaDoor
end

section
namespace Go.Proofs.YthcjledpjlpfaaaDoor
open Go.RowKit
set_option linter.unusedVariables false
attribute [local go_sem] Oper.semAt_some

def encC (B L : Nat) (k : Nat) : Array Value := #[.slice (some ⟨B, 119 * k, none⟩) (partZ L k) (partZ L k)]
def KpC (Bs Bn : Nat) (W W' : World) : Prop := W'.heap[Bs]? = W.heap[Bs]? ∧ W'.heap[Bn]? = W.heap[Bn]?
end Go.Proofs.YthcjledpjlpfaaaDoor
end

section
namespace Go.Proofs.YthcjledpjlpfaaaDoor
open Go.RowKit
set_option linter.unusedVariables false
attribute [local go_sem] Oper.semAt_some

theorem only_fresh {a b c : World} {P : Nat} {row : Option Nat} (h : a.grownBy b (some P)) (k : b.grownBy c row) (hr : ∀ g, row = some g → a.heap.size ≤ g) : a.grownBy c (some P) :=
  ⟨k.os.trans h.os, k.tape.trans h.tape, k.output.trans h.output, Nat.le_trans h.size k.size, fun i hi hne => (k.block i (Nat.lt_of_lt_of_le hi h.size) (fun e => by have := hr i e.symm; omega)).trans (h.block i hi hne)⟩
structure RowH (B : Nat) (w : World) (x : Hd) : Prop where
  len : x.n = x.l.length
  pos : 0 < x.n
  row : Row w 5 B x.a (x.l.map byteV)
  room : x.n ≤ x.c
  most : x.c ≤ maxLen
theorem RowH.arg {B : Nat} {w : World} {x : Hd} (h : RowH B w x) : Arg w x.a x.n x.c x.l := Arg.of_row h.row h.len h.pos h.room h.most
theorem RowH.below {B : Nat} {w w' : World} {x : Hd} (h : RowH B w x) (hb : Below w.heap.size w w') : RowH B w' x := ⟨h.len, h.pos, h.row.below hb, h.room, h.most⟩
theorem RowH.own {B b s n : Nat} {w w' : World} {x : Hd} {v : Value} {ys : List Value} (h : RowH B w x) (ho : w.ownsRow b 32 s v n ys) (hg : w.grownBy w' v.ownBlock) : RowH B w' x := ⟨h.len, h.pos, h.row.kept_own ho (by decide) hg, h.room, h.most⟩
def pgsN (s : List UInt8) (l : List Int) (pre : List Nat) : List (List UInt8) := pre.zipIdx.map fun x => cPage 3 [numB (l.getD (x.2 + 1) 0).toNat 2 ++ partL s x.1]
def PutEnd (s : List UInt8) (l : List Int) (w : World) (e : Ending) (w' : World) : Prop :=
  ∃ A n c q, e = .returned (.tuple #[.slice A n c, .int .i64 (putN s l).2]) ∧ CellsA w' A n c q ∧ lq q = (putN s l).1 ∧ (∀ x ∈ q, RowH w.heap.size w' x) ∧ Below w.heap.size w w' ∧ Row w' 32 w.heap.size A (q.map Hd.v)
end Go.Proofs.YthcjledpjlpfaaaDoor
end
