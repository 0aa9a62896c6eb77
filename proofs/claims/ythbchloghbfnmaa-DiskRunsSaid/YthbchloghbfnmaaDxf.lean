/- The document's regions of layer 6: Write: contract, no statement. -/
import Derived.Test.YthbchloghbfnmaaDxe
namespace Go.Proofs.Ythbchloghbfnmaa
open Go.RowKit
set_option linter.unusedVariables false

theorem info_L6 : (Try.prog.info? 81).map (fun i => (i.zero, i.size, i.bytes)) = some (some (.agg #[.int .i64 0, .string ⟨#[]⟩]), 2, 24) := by kernel_rfl
/-- What Write, Sync leave: other regions, as many, and the error. -/
def GeEnd (T : Tg) (rs : List Rg) (er : Int) (n : Nat) (w : World) (e : Ending) (w' : World) : Prop := ∃ A' c' gs', e = .returned (.tuple #[.slice A' n c', .int .i64 er]) ∧ GA w' T A' n c' gs' ∧ rgs gs' = rs ∧ Below w.heap.size w w'
theorem wrA_not {rs : List Rg} {x p : Int} (l : List UInt8) (h : rdE rs x p ≠ 0) : wrA rs x p l = (rs, rdE rs x p) := by
  unfold rdE at h ⊢
  unfold wrA
  cases hr : regN rs x with
  | none => rfl
  | some r =>
    simp only [hr] at h ⊢
    split
    · rfl
    · split
      · simp_all
      · rfl
theorem wrA_short {rs : List Rg} {x p : Int} {l : List UInt8} (h : rdE rs x p = 0) (hl : l.length ≠ 128) : wrA rs x p l = (rs, 1) := by
  obtain ⟨r, hr, hd, h0, h1, _⟩ := up_yes h
  unfold wrA
  simp [hr, hd, hasB, h0, h1, hl]
theorem wrA_yes {rs : List Rg} {x p : Int} {l : List UInt8} {r : Rg} (hr : regN rs x = some r) (hd : r.down = false) (h0 : 0 ≤ p) (h1 : p < r.size) (hl : l.length = 128) :
    wrA rs x p l = if r.left = 0 then (rs.set x.toNat (cntR r), 3) else (rs.set x.toNat (wrR (cntR r) p l), 0) := by
  unfold wrA
  have := (cntR_parts r hd).2.1
  simp [hr, hd, hasB, h0, h1, hl, this]
theorem cntR_at (r : Rg) (hd : r.down = false) : cntR r = { r with left := cntL r.left, down := decide (r.left = 0) } := by
  unfold cntR cntL
  split
  · rename_i h
    rw [h]
    simp
  · split
    · simp_all
    · simp_all
      rw [← hd]
theorem cell_two_new (w : World) (e : TypeId) (u0 u1 : Value) : ∀ j u, [u0, u1][j]? = some u → (w.alloc (.cells #[u0, u1] e)).cell? ((⟨w.heap.size, 0, none⟩ : Addr).add j) = some u := fun j u hj => by
  rw [add_plain, Nat.zero_add]
  have := (Has.made w e #[u0, u1]).cell j
  exact this.trans (by simpa using hj)
theorem own_keepG {w w' : World} {b s : Nat} {t : TypeId} {v : Value} {n : Nat} {xs : List Value} (h : w.ownsRow b t s v n xs) (hk : ∀ g, b ≤ g → v.ownBlock = some g → w'.heap[g]? = w.heap[g]?) : w'.ownsRow b t s v n xs := by
  refine ⟨h.1, ?_⟩
  rcases h.2 with h | ⟨g, cap, cur, rfl, h1, hh, h2⟩
  · exact .inl h
  · exact .inr ⟨g, cap, cur, rfl, h1, (hk g h1 rfl).trans hh, h2⟩
theorem own_min {w : World} {b s : Nat} {t : TypeId} {v : Value} {n : Nat} {xs : List Value} (h : w.ownsRow b t s v n xs) : ∀ g, v.ownBlock = some g → b ≤ g := fun g hg => by
  rcases h.2 with ⟨rfl, _⟩ | ⟨g', cap, cur, rfl, h1, _⟩
  · cases hg
  · obtain rfl : g' = g := by injection hg
    exact h1
theorem wr_next {w w1 W w2 w3 : World} {T : Tg} {v2 v3 : Value} {pA lA : Option Addr} {pn pc ln lc : Nat} {m : Int} {dn : Bool} {loose : List Wr} {p : Int} {l : List UInt8} {o : Obj}
    (hb1 : Below w.heap.size w w1) (hW : w1.alloc (.cells #[.slice pA pn pc, .slice lA ln lc, .int .i64 m, .bool dn] 53) = W) (h7 : w2.ownsRow (w1.heap.size + 1) 81 2 v2 ln (looseV loose)) (h8 : W.grownBy w2 none)
    (h9 : w3.ownsRow (w1.heap.size + 1) 81 2 v3 (ln + 1) (looseV loose ++ [.int .i64 p, txtV l])) (h10 : (w2.alloc o).grownBy w3 v2.ownBlock) (hT : ∀ g, w.heap.size ≤ g → T g = none) :
    ∃ A3 c3, v3 = .slice A3 (ln + 1) c3 ∧ w3.cell? ⟨w1.heap.size, 0, none⟩ = some (.slice pA pn pc) ∧ w3.cell? ⟨w1.heap.size, 1, none⟩ = some (.slice lA ln lc) ∧ w3.cell? ⟨w1.heap.size, 2, none⟩ = some (.int .i64 m) ∧ w3.cell? ⟨w1.heap.size, 3, none⟩ = some (.bool dn) ∧ w3.frozen? ⟨w1.heap.size, 1, none⟩ = false ∧
      SlT (w3.setCell ⟨w1.heap.size, 1, none⟩ (.slice A3 (ln + 1) c3)) T A3 (ln + 1) c3 (looseV (loose ++ [(p, l)])) ∧ Below w.heap.size w (w3.setCell ⟨w1.heap.size, 1, none⟩ (.slice A3 (ln + 1) c3)) := by
  subst hW
  have hs1 := hb1.size
  have hx0 : Has (w1.alloc (.cells #[.slice pA pn pc, .slice lA ln lc, .int .i64 m, .bool dn] 53)) w1.heap.size 53 #[.slice pA pn pc, .slice lA ln lc, .int .i64 m, .bool dn] := Has.made w1 _ _
  have hx3 : Has w3 w1.heap.size 53 #[.slice pA pn pc, .slice lA ln lc, .int .i64 m, .bool dn] := ((hx0.grown h8 (by intro e; cases e)).alloc o).grown h10 (fun e => by
    have := own_min h7 _ e.symm
    omega)
  obtain ⟨A3, c3, rfl⟩ := own_slw h9
  refine ⟨A3, c3, rfl, hx3.cell 0, hx3.cell 1, hx3.cell 2, hx3.cell 3, hx3.free 1, ?_, ?_⟩
  · rw [looseV_snoc]
    obtain ⟨A4, c4, hv, hs⟩ := SlT.of_own (T := T) (own_keepG (w' := w3.setCell ⟨w1.heap.size, 1, none⟩ (.slice A3 (ln + 1) c3)) h9 (fun g hg _ => setCell_heap_other w3 ⟨w1.heap.size, 1, none⟩ _ g (by show g ≠ w1.heap.size; omega))) (fun g hg => hT g (by omega))
    injection hv with h1 _ h2
    subst h1 h2
    exact hs
  · have hbW : Below w.heap.size w (w1.alloc (.cells #[.slice pA pn pc, .slice lA ln lc, .int .i64 m, .bool dn] 53)) := hb1.alloc hs1 _
    have hb2 := hbW.grown h8 hbW.size (fun k hk => by cases hk)
    have hb3 := (hb2.alloc hb2.size o).grown h10 (by have := hb2.size; simp; omega) (fun k hk => by have := own_min h7 _ hk; omega)
    exact hb3.setCell (p := ⟨w1.heap.size, 1, none⟩) hs1 _
section
variable {w : World} {T : Tg} {A : Option Addr} {n c : Nat} {gs : List Gx}
set_option maxRecDepth 100000 in
set_option maxHeartbeats 4000000 in
theorem r6Write_any (x p : Int) (l : List UInt8) (h : GA w T A n c gs) (hn : gs.length ≤ 1000) (hm : ∀ r ∈ rgs gs, r.loose.length ≤ 1000) (hT : ∀ g, w.heap.size ≤ g → T g = none) (hl : l.length ≤ 9223372036854775807) :
    Calls Try.prog 14 #[.slice A n c, .int .i64 x, .int .i64 p, txtV l] w (GeEnd T (wrA (rgs gs) x p l).1 (wrA (rgs gs) x p l).2 n w) := by
  have hup := r6up_any x p true h
  rw [upI_rd] at hup
  have HH := Lib.hid h
  have HUP := Lib.hid hup
  unfold txtV
  by_cases he : rdE (rgs gs) x p = 0
  · rw [he] at HUP
    by_cases hl8 : l.length = 128
    · obtain ⟨r, hr, hd, hp0, hp1, hpr⟩ := up_yes he
      rw [wrA_yes hr hd hp0 hp1 hl8]
      obtain ⟨k, g, rfl, hg, rfl, hk⟩ := regN_gs hr
      have hlm := hm g.r (List.mem_map.2 ⟨g, List.mem_of_getElem? hg, rfl⟩)
      have hgo := h.reg hg
      have hlen := h.len
      obtain ⟨b, off, rfl, c0, c1, c2, c3⟩ := h.at_ hg
      obtain ⟨r, pA, pc, lA, lc⟩ := g
      dsimp only at *
      rw [hd] at c3
      have hcr := cntR_at r hd
      have hok := hgo.ok
      have hlo := hgo.lo
      dsimp only at hok hlo
      obtain ⟨m, hmm⟩ : ∃ m, r.left = m := ⟨_, rfl⟩
      obtain ⟨ln, hln⟩ : ∃ ln, r.loose.length = ln := ⟨_, rfl⟩
      have hcnt := r6counts_any pA lA r.size pc ln lc m
      rw [hmm] at c2 hcr
      rw [hln] at c1 hlm
      have i2 : (0 : Int) ≤ (k : Int) := by omega
      have i3 : (k : Int) < (n : Int) := by omega
      have HC := Lib.hid (fun w1 => hcnt w1 (hmm ▸ hok.left0) (hmm ▸ hok.left1))
      have HN := Lib.hid hn
      have HK := Lib.hid hk
      have HT := Lib.hid hT
      have HG := Lib.hid hgo
      have HCR := Lib.hid hcr
      have HLN := Lib.hid hln
      have HP0 := Lib.hid hp0
      have HP1 := Lib.hid hp1
      have HL8 := Lib.hid hl8
      have e8 : ((l.length : Int) == 128) = true := by simp; omega
      have HM := Lib.hid hmm
      clear hcnt h hup he hm hr hd hg hk hgo hn hT hlen hcr hok hlo hmm hln hpr hp0 hp1 hl8
      by_cases h0 : m = 0
      · subst h0
        have HC0 : Hid (∀ w1, Calls Try.prog 36 #[.agg #[.slice pA r.size pc, .slice lA ln lc, .int .i64 0, .bool false]] w1 fun e w' => e = .returned (.tuple #[.agg #[.slice pA r.size pc, .slice lA ln lc, .int .i64 0, .bool true], .int .i64 3]) ∧ Below w1.heap.size w1 w') := Lib.hid (fun w1 => HC.out w1)
        have hnew : ∀ w' : World, Below w.heap.size w w' → Gok w' T ⟨cntR r, pA, pc, lA, lc⟩ := fun w' hb => ⟨by have := HG.out.pg.below hb; rw [HCR.out]; exact this, by have := HG.out.lo.below hb; rw [HCR.out]; exact this, cntR_ok HG.out.ok⟩
        have hset : rgs (gs.set k ⟨cntR r, pA, pc, lA, lc⟩) = (rgs gs).set (k : Int).toNat (cntR r) := rgs_set _ _ _
        rw [if_pos HM.out, ← hset]
        have HWI : Hid (∀ w1, Below w.heap.size w w1 → Calls Try.prog 37 #[.slice (some ⟨b, off, none⟩) n c, .int .i64 (k : Int), .agg #[.slice pA r.size pc, .slice lA ln lc, .int .i64 0, .bool true]] w1 (GaEnd T n (gs.set k ⟨cntR r, pA, pc, lA, lc⟩) w1)) := Lib.hid (fun w1 hb => by
          have := r6with_any k ⟨cntR r, pA, pc, lA, lc⟩ (HH.out.below hb) (hnew w1 hb) HK.out HN.out (fun g hg => HT.out g (Nat.le_trans hb.size hg))
          rw [HCR.out] at this ⊢
          dsimp only at this
          rw [HLN.out] at this
          exact this)
        clear HC hnew hset
        go_enter Try.func14, Try.ntmps14
        go_wp2_with (first
          | (go_at_call 35; (with_reducible refine HUP.out.mono ?_); rintro e w2 ⟨rfl, rfl⟩)
          | (go_at_call 36; (with_reducible refine (HC0.out _).mono ?_); rintro e w1 ⟨rfl, h1⟩; have B1 := Lib.hid h1; have HB : Hid (Below w.heap.size w (w1.alloc (.cells #[.slice pA r.size pc, .slice lA ln lc, .int .i64 0, .bool true] 53))) := Lib.hid (h1.alloc h1.size _); clear h1)
          | (go_at_call 37; (with_reducible refine (HWI.out _ HB.out).mono ?_); rintro e w5 ⟨A5, c5, rfl, h5, h6⟩; have Z5 := Lib.hid h5; have B5 := Lib.hid (below_step HB.out h6); clear h5 h6))
        go_ret2
        exact ⟨A5, c5, _, rfl, Z5.out, rfl, B5.out⟩
      · obtain ⟨mm, hmm⟩ : ∃ mm, cntL m = mm := ⟨_, rfl⟩
        have HC1 : Hid (∀ w1, Calls Try.prog 36 #[.agg #[.slice pA r.size pc, .slice lA ln lc, .int .i64 m, .bool false]] w1 fun e w' => e = .returned (.tuple #[.agg #[.slice pA r.size pc, .slice lA ln lc, .int .i64 mm, .bool false], .int .i64 0]) ∧ Below w1.heap.size w1 w') := Lib.hid (fun w1 => by
          have := HC.out w1
          rw [hmm, show decide (m = 0) = false by simpa using h0, show cntE m = 0 by simp [cntE, h0]] at this
          exact this)
        have hcr2 : cntR r = { r with left := mm, down := false } := by rw [HCR.out, hmm]; simp [h0]
        have hset : ∀ A3 c3, rgs (gs.set k ⟨wrR (cntR r) p l, pA, pc, A3, c3⟩) = (rgs gs).set (k : Int).toNat (wrR (cntR r) p l) := fun _ _ => rgs_set _ _ _
        rw [if_neg (by rw [HM.out]; exact h0)]
        have HSET := Lib.hid hset
        have HWI : Hid (∀ w1 A3 c3, Below w.heap.size w w1 → SlT w1 T A3 (ln + 1) c3 (looseV (r.loose ++ [(p, l)])) → Calls Try.prog 37 #[.slice (some ⟨b, off, none⟩) n c, .int .i64 (k : Int), .agg #[.slice pA r.size pc, .slice A3 (ln + 1) c3, .int .i64 mm, .bool false]] w1 (GaEnd T n (gs.set k ⟨wrR (cntR r) p l, pA, pc, A3, c3⟩) w1)) := Lib.hid (fun w1 A3 c3 hb hs => by
          have hgk : Gok w1 T ⟨wrR (cntR r) p l, pA, pc, A3, c3⟩ := by
            refine ⟨?_, ?_, wrR_ok (cntR_ok HG.out.ok) HP0.out (by rw [cntR_size]; exact HP1.out) HL8.out⟩
            · have := HG.out.pg.below hb
              rw [hcr2]
              exact this
            · rw [hcr2]
              simp only [wrR, List.length_append, HLN.out]
              exact hs
          have := r6with_any k ⟨wrR (cntR r) p l, pA, pc, A3, c3⟩ (HH.out.below hb) hgk HK.out HN.out (fun g hg => HT.out g (Nat.le_trans hb.size hg))
          rw [hcr2] at this ⊢
          simp only [wrR, List.length_append, HLN.out] at this
          exact this)
        obtain ⟨i0, hi, hz0, hz1, hz2⟩ := info_parts info_L6
        have HLI := Lib.hid (show ∀ u ∈ ([.int .i64 p, .string ⟨l.toArray⟩] : List Value), u.oneCell' = true from by intro u hu; simp at hu; rcases hu with rfl | rfl <;> rfl)
        have e0 : (m == 0) = false := by simpa using h0
        clear HC hset hcr2 hmm h0
        go_enter Try.func14, Try.ntmps14
        go_wp2_with (first
          | (go_at_call 35; (with_reducible refine HUP.out.mono ?_); rintro e w2 ⟨rfl, rfl⟩)
          | (go_at_call 36; (with_reducible refine (HC1.out _).mono ?_); rintro e w1 ⟨rfl, h1⟩; have B1 := Lib.hid h1; have HB : Hid (Below w.heap.size w (w1.alloc (.cells #[.slice pA r.size pc, .slice lA ln lc, .int .i64 mm, .bool false] 53))) := Lib.hid (h1.alloc h1.size _); have SL := Lib.hid (HG.out.below HB.out).lo; clear h1)
          | (at_builtin; refine wpList_append_src rfl _ _ 51 rfl (w1.heap.size + 1) 81 i0 _ 2 24 Try.underlying51 hi hz0 hz1 hz2 rfl (by decide) _ 0 [] rfl (World.ownsRow_nil _ _ _ _) lA ln lc (looseV r.loose) rfl (by rw [looseV_len, HLN.out]) SL.out.nil (by have := SL.out.room; rw [← HLN.out]; exact this) SL.out.reads (looseV_one r.loose) (by omega) (by unfold maxLen; omega) (by simp) ?_; intro v2 w2 h7 h8; simp only [Nat.zero_add, List.nil_append] at h7; have O2 := Lib.hid h7; have K2 := Lib.hid (show (w1.alloc (.cells #[.slice pA r.size pc, .slice lA ln lc, .int .i64 mm, .bool false] 53)).grownBy w2 none from h8); clear h7 h8)
          | (at_builtin; refine wpList_append_own _ rfl _ _ 51 rfl (w1.heap.size + 1) 81 i0 _ 2 24 Try.underlying51 hi hz0 hz1 hz2 rfl (by decide) _ ln _ rfl (O2.out.alloc _) ⟨w2.heap.size, 0, none⟩ 1 1 [.int .i64 p, .string ⟨l.toArray⟩] rfl rfl ?_ ?_ ?_ ?_ ?_ ?_; (exact cell_two_new _ _ _ _); (exact HLI.out); (unfold maxLen; omega); (omega); (have hq := K2.out.size; simp at hq; simp; omega); intro v3 w3 h9 h10 _; obtain ⟨A3, c3, rfl, d0, d1, d2, d3, f1, h11, h12⟩ := wr_next B1.out rfl O2.out K2.out h9 h10 HT.out; have S3 := Lib.hid h11; have B3 := Lib.hid h12; clear h9 h10 h11 h12)
          | (go_at_call 37; (with_reducible refine (HWI.out _ _ _ B3.out S3.out).mono ?_); rintro e w5 ⟨A5, c5, rfl, h5, h6⟩; have Z5 := Lib.hid h5; have B5 := Lib.hid (below_step B3.out h6); clear h5 h6))
        go_ret2
        exact ⟨A5, c5, _, rfl, Z5.out, HSET.out _ _, B5.out⟩
    · rw [wrA_short he hl8]
      have e1 : ((l.length : Int) == 128) = false := by simp; omega
      clear hup h hm hT hn he hl8
      go_enter Try.func14, Try.ntmps14
      go_wp2_with (go_at_call 35; (with_reducible refine HUP.out.mono ?_); rintro e w2 ⟨rfl, rfl⟩)
      go_ret2
      exact ⟨A, c, gs, rfl, HH.out, rfl, Below.refl _ _⟩
  · rw [wrA_not l he]
    obtain ⟨er, her⟩ : ∃ er, rdE (rgs gs) x p = er := ⟨_, rfl⟩
    rw [her] at HUP he
    rw [her]
    have e1 : (er == 0) = false := by simpa using he
    clear hup h hm hT hn he her
    go_enter Try.func14, Try.ntmps14
    go_wp2_with (go_at_call 35; (with_reducible refine HUP.out.mono ?_); rintro e w2 ⟨rfl, rfl⟩)
    go_ret2
    exact ⟨A, c, gs, rfl, HH.out, rfl, Below.refl _ _⟩
end

end Go.Proofs.Ythbchloghbfnmaa
