/- The document's regions of layer 6: with, Stop: contracts, no statement. -/
import Derived.Test.YthbchloghbfnmaaDxc
namespace Go.Proofs.Ythbchloghbfnmaa
open Go.RowKit
set_option linter.unusedVariables false

theorem gsV_idx (gs : List Gx) (m : Nat) : (gsV gs)[m]? = gs[m / 4]?.bind (fun g => g.cells[m % 4]?) := by
  rw [← gsV_at gs (m / 4) (m % 4) (Nat.mod_lt _ (by omega))]
  congr 1
  omega
theorem gcells_len (g : Gx) : g.cells.length = 4 := rfl
/-- An element of an own row of regions that is written over. -/
theorem own_set {w : World} {T : Tg} {base n c : Nat} {A : Option Addr} {gs : List Gx} {k : Nat} (g' : Gx) (h : w.ownsRow base 53 4 (.slice A n c) n (gsV gs)) (hk : k < gs.length) (hT : ∀ g, base ≤ g → T g = none) :
    ∃ g, A = some ⟨g, 0, none⟩ ∧ base ≤ g ∧ w.there g (k * 4) 4 ∧ SlT (w.setCells g (k * 4) g'.cells) T A n c (gsV (gs.set k g')) ∧ Below base w (w.setCells g (k * 4) g'.cells) := by
  have hln := h.1
  rw [gsV_len] at hln
  rcases h.2 with ⟨hv, hn⟩ | ⟨g, cap, cur, hv, hb, hg, hnc, hcm, hcs, hcur⟩
  · omega
  · injection hv with hA _ hc
    subst hA hc
    have hH : Has w g 53 cur := hg
    have hcz : gs.length * 4 ≤ cur.size := by rw [hcs]; have := Nat.mul_le_mul_right 4 hnc; omega
    have ht : w.there g (k * 4) 4 := fun j hj => by
      refine ⟨?_, hH.free _⟩
      rw [hH.cell]
      have : k * 4 + j < cur.size := by omega
      simp [this]
    refine ⟨g, rfl, hb, ht, ⟨fun hx => ⟨g, 0, rfl, fun m u hm => ?_⟩, fun _ a ha => by injection ha with ha; subst ha; exact hT g hb, hnc, hcm, fun h => by cases h⟩, ?_⟩
    · rw [Nat.zero_add]
      rw [gsV_idx, List.getElem?_set] at hm
      by_cases e : k = m / 4
      · rw [if_pos e, if_pos hk] at hm
        have hm4 : m % 4 < g'.cells.length := Nat.mod_lt _ (by omega)
        have := World.cell?_setCells_in g g'.cells (k * 4) w (fun j hj => (ht j hj).1) (m % 4) hm4
        rw [show k * 4 + m % 4 = m by omega] at this
        rw [this]
        simpa [List.getElem?_eq_getElem hm4] using hm
      · rw [if_neg e] at hm
        rw [World.cell?_setCells_out g g'.cells (k * 4) w ⟨g, m, none⟩ (fun _ _ => by rw [gcells_len]; show m < k * 4 ∨ k * 4 + 4 ≤ m; omega), hH.cell]
        rw [← gsV_idx, ← hcur, List.getElem?_take] at hm
        split at hm
        · simpa using hm
        · cases hm
    · obtain ⟨cs', h1, h2, h3, h4⟩ := Has.sets (w := w) g'.cells (k * 4) w cur hH
      obtain ⟨r1, r2, r3⟩ := setCells_rest g g'.cells (k * 4) w
      exact ⟨r1, r2, r3, Nat.le_of_eq (setCells_hsize g _ _ _).symm, fun x hx => h4 x (by omega)⟩
theorem info_G6 : (Try.prog.info? 53).map (fun i => (i.zero, i.size, i.bytes)) = some (some (.agg #[.slice none 0 0, .slice none 0 0, .int .i64 0, .bool false]), 4, 64) := by kernel_rfl
theorem set_next {w W w4 : World} {T : Tg} {v4 : Value} {n : Nat} {gs : List Gx} {k : Nat} (g' : Gx) (h7 : w4.ownsRow w.heap.size.succ 53 4 v4 (0 + n) ([] ++ gsV gs)) (h8 : W.grownBy w4 none) (hBW : Below w.heap.size w W) (hbox : Has W w.heap.size 53 g'.cells.toArray)
    (hT : ∀ g, w.heap.size ≤ g → T g = none) (hk : k < gs.length) : ∃ g4 c4, v4 = .slice (some ⟨g4, 0, none⟩) n c4 ∧ w4.cell? ⟨w.heap.size, 0, none⟩ = some (.slice g'.pA g'.r.size g'.pc) ∧ w4.cell? ⟨w.heap.size, 1, none⟩ = some (.slice g'.lA g'.r.loose.length g'.lc) ∧
      w4.cell? ⟨w.heap.size, 2, none⟩ = some (.int .i64 g'.r.left) ∧ w4.cell? ⟨w.heap.size, 3, none⟩ = some (.bool g'.r.down) ∧
      SlT (w4.setCells g4 (k * 4) g'.cells) T (some ⟨g4, 0, none⟩) n c4 (gsV (gs.set k g')) ∧ Below w.heap.size w (w4.setCells g4 (k * 4) g'.cells) ∧
      (Instr.storeAt 53 (.pointer (some ⟨g4, k * 4, none⟩)) (.agg #[.slice g'.pA g'.r.size g'.pc, .slice g'.lA g'.r.loose.length g'.lc, .int .i64 g'.r.left, .bool g'.r.down])).run Try.prog w4 = .ok () (w4.setCells g4 (k * 4) g'.cells) := by
  have hq : w4.ownsRow w.heap.size.succ 53 4 v4 n (gsV gs) := by simpa using h7
  obtain ⟨A4, c4, rfl⟩ := own_slw hq
  obtain ⟨g4, rfl, hb4, ht4, hs4, hbl4⟩ := own_set g' hq hk (fun g hg => hT g (by omega))
  have hbx := hbox.grown h8 (by intro e; cases e)
  have B4 := hBW.grown h8 hBW.size (fun k hk => by cases hk)
  exact ⟨g4, c4, rfl, hbx.cell 0, hbx.cell 1, hbx.cell 2, hbx.cell 3, hs4, B4.trans (hbl4.mono (Nat.le_succ _)), run_storeAt_mid (P := Try.prog) w4 g4 (k * 4) 53 g'.cells.toArray ht4 (by kernel_rfl) (by simp [Gx.cells, Value.oneCell'])⟩
theorem store_G6 (w : World) (u0 u1 u2 u3 : Value) (h : (#[u0, u1, u2, u3] : Array Value).all (·.oneCell') = true) :
    (Instr.storeAt 53 (.pointer (some ⟨w.heap.size, 0, none⟩)) (.agg #[u0, u1, u2, u3])).run Try.prog (w.alloc (.cells #[.slice none 0 0, .slice none 0 0, .int .i64 0, .bool false] 53)) = .ok () (w.alloc (.cells #[u0, u1, u2, u3] 53)) :=
  run_storeAt_new w 53 #[.slice none 0 0, .slice none 0 0, .int .i64 0, .bool false] #[u0, u1, u2, u3] (by kernel_rfl) rfl h
def GaEnd (T : Tg) (n : Nat) (gs : List Gx) (w : World) (e : Ending) (w' : World) : Prop := ∃ A' c', e = .returned (.slice A' n c') ∧ GA w' T A' n c' gs ∧ Below w.heap.size w w'
section
variable {w : World} {T : Tg} {A : Option Addr} {n c : Nat} {gs : List Gx}
theorem GA.reg (h : GA w T A n c gs) {k : Nat} {g : Gx} (hg : gs[k]? = some g) : Gok w T g := h.each g (List.mem_of_getElem? hg)
set_option maxRecDepth 100000 in
set_option maxHeartbeats 2000000 in
theorem r6with_any (k : Nat) (g' : Gx) (h : GA w T A n c gs) (hg' : Gok w T g') (hk : k < gs.length) (hn : gs.length ≤ 1000) (hT : ∀ g, w.heap.size ≤ g → T g = none) :
    Calls Try.prog 37 #[.slice A n c, .int .i64 (k : Int), .agg #[.slice g'.pA g'.r.size g'.pc, .slice g'.lA g'.r.loose.length g'.lc, .int .i64 g'.r.left, .bool g'.r.down]] w (GaEnd T n (gs.set k g') w) := by
  have hnl := h.len
  obtain ⟨W, hW⟩ : ∃ W, w.alloc (.cells #[.slice g'.pA g'.r.size g'.pc, .slice g'.lA g'.r.loose.length g'.lc, .int .i64 g'.r.left, .bool g'.r.down] 53) = W := ⟨_, rfl⟩
  have hBW : Below w.heap.size w W := hW ▸ (Below.refl _ w).alloc (Nat.le_refl _) _
  have hbox : Has W w.heap.size 53 #[.slice g'.pA g'.r.size g'.pc, .slice g'.lA g'.r.loose.length g'.lc, .int .i64 g'.r.left, .bool g'.r.down] := hW ▸ Has.made w 53 _
  have HBW := Lib.hid hBW
  have HBOX := Lib.hid hbox
  obtain ⟨i0, hi, hz0, hz1, hz2⟩ := info_parts info_G6
  have HR := Lib.hid (h.sl.reads.keep_ hBW)
  have HN := Lib.hid hnl
  have HSL := Lib.hid h.sl
  have HEACH := Lib.hid h.each
  have HG' := Lib.hid hg'
  have HT := Lib.hid hT
  have i1 : (k : Int) < (n : Int) := by omega
  have i2 : (0 : Int) ≤ (k : Int) := by omega
  have hWs : w.heap.size < W.heap.size := hbox.lt
  have HK := Lib.hid hk
  have hn2 : n ≤ 1000 := by omega
  clear h hg' hT hnl hk hn
  go_enter Try.func37, Try.ntmps37
  go_wp2_with (first
    | (at_builtin; refine wpList_append_src rfl _ _ 30 rfl w.heap.size.succ 53 i0 _ 4 64 Try.underlying30 hi hz0 hz1 hz2 rfl (by decide) _ 0 [] rfl (World.ownsRow_nil _ _ _ _) A n c (gsV gs) rfl (by rw [gsV_len, ← HN.out]) HSL.out.nil HSL.out.room HR.out (gsV_one gs) (by omega) (by unfold maxLen; omega) hWs ?_; intro v4 w4 h7 h8; obtain ⟨g4, c4, rfl, c0, c1, c2, c3, h3, h4, h5⟩ := set_next g' h7 h8 HBW.out HBOX.out HT.out HK.out; have S4 := Lib.hid h3; have B4 := Lib.hid h4; have HST := Lib.hid h5; clear h3 h4 h5 h7 h8)
    | (refine wpL_store rfl 53 (.tmp 14) (.tmp 13) rfl _ _ rfl rfl _ HST.out ?_))
  go_ret
  refine ⟨some ⟨g4, 0, none⟩, c4, rfl, ⟨by rw [List.length_set, ← HN.out], S4.out, ?_⟩, B4.out⟩
  · intro g hg
    rcases List.mem_or_eq_of_mem_set hg with hg | rfl
    · exact (HEACH.out g hg).below B4.out
    · exact HG'.out.below B4.out
/-- Other regions, as many. -/
def GrEnd (T : Tg) (rs : List Rg) (n : Nat) (w : World) (e : Ending) (w' : World) : Prop := ∃ A' c' gs', e = .returned (.slice A' n c') ∧ GA w' T A' n c' gs' ∧ rgs gs' = rs ∧ Below w.heap.size w w'
theorem rgs_set (gs : List Gx) (k : Nat) (g : Gx) : rgs (gs.set k g) = (rgs gs).set k g.r := by simp [rgs, List.map_set]
theorem GA.rg (h : GA w T A n c gs) {k : Nat} {g : Gx} (hg : gs[k]? = some g) : regN (rgs gs) (k : Int) = some g.r := by
  unfold regN
  rw [if_neg (by omega)]
  simp [rgs, hg]
set_option maxRecDepth 100000 in
set_option maxHeartbeats 2000000 in
theorem r6Stop_any (x a : Int) (h : GA w T A n c gs) (hn : gs.length ≤ 1000) (hT : ∀ g, w.heap.size ≤ g → T g = none) (ha : a ≤ 9223372036854775807) :
    Calls Try.prog 18 #[.slice A n c, .int .i64 x, .int .i64 a] w (GrEnd T (stA (rgs gs) x a) n w) := by
  have hnl := h.len
  have HH := Lib.hid h
  cases hr : regN (rgs gs) x with
  | none =>
    rw [show stA (rgs gs) x a = rgs gs by simp [stA, hr]]
    have h1 := regN_none hr
    rw [rgs_len, ← hnl] at h1
    rcases h1 with h1 | h1
    · clear hr h hnl hn hT
      go_enter Try.func18, Try.ntmps18
      go_wp2
      go_ret
      exact ⟨A, c, gs, rfl, HH.out, rfl, Below.refl _ _⟩
    · by_cases h2 : x < 0
      · clear hr h hnl hn hT
        go_enter Try.func18, Try.ntmps18
        go_wp2
        go_ret
        exact ⟨A, c, gs, rfl, HH.out, rfl, Below.refl _ _⟩
      · clear hr h hnl hn hT
        go_enter Try.func18, Try.ntmps18
        go_wp2
        go_ret
        exact ⟨A, c, gs, rfl, HH.out, rfl, Below.refl _ _⟩
  | some r =>
    obtain ⟨k, g, rfl, hg, rfl, hk⟩ := regN_gs hr
    rw [show stA (rgs gs) (k : Int) a = (rgs gs).set k (stR g.r a) by simp [stA, hr]]
    have hgo := h.reg hg
    obtain ⟨b, off, rfl, c0, c1, c2, c3⟩ := h.at_ hg
    have i0 : ¬ (k : Int) < 0 := by omega
    have i1 : ¬ (n : Int) ≤ (k : Int) := by omega
    have i2 : (0 : Int) ≤ (k : Int) := by omega
    have i3 : (k : Int) < (n : Int) := by omega
    have HNL := Lib.hid hnl
    have HK := Lib.hid hk
    have HL := Lib.hid hn
    have HT := Lib.hid hT
    have HG := Lib.hid hgo
    have hnew : ∀ (w' : World), Below w.heap.size w w' → Gok w' T ⟨stR g.r a, g.pA, g.pc, g.lA, g.lc⟩ := fun w' hb => ⟨HG.out.pg.below hb, HG.out.lo.below hb, stR_ok HG.out.ok ha⟩
    have HNEW := Lib.hid hnew
    have hset : rgs (gs.set k ⟨stR g.r a, g.pA, g.pc, g.lA, g.lc⟩) = (rgs gs).set k (stR g.r a) := rgs_set _ _ _
    have HSET := Lib.hid hset
    obtain ⟨m, hm⟩ : ∃ m, (stR g.r a).left = m := ⟨_, rfl⟩
    have HWI := Lib.hid (fun w1 (hb : Below w.heap.size w w1) => (show Calls Try.prog 37 #[.slice (some ⟨b, off, none⟩) n c, .int .i64 (k : Int), .agg #[.slice g.pA g.r.size g.pc, .slice g.lA g.r.loose.length g.lc, .int .i64 m, .bool g.r.down]] w1 (GaEnd T n (gs.set k ⟨stR g.r a, g.pA, g.pc, g.lA, g.lc⟩) w1) from hm ▸ r6with_any k ⟨stR g.r a, g.pA, g.pc, g.lA, g.lc⟩ (HH.out.below hb) (HNEW.out _ hb) HK.out HL.out (fun g hg => HT.out g (Nat.le_trans hb.size hg))))
    have hm2 : m = if a < 0 then -1 else a := by
      rw [← hm]
      simp only [stR]
      split <;> omega
    clear hr h hnl hn hT hk hgo hnew hset hg hm
    by_cases h3 : a < 0
    · rw [if_pos h3] at hm2
      subst hm2
      have hb : Below w.heap.size w (w.alloc (.cells #[.slice g.pA g.r.size g.pc, .slice g.lA g.r.loose.length g.lc, .int .i64 (-1), .bool g.r.down] 53)) := (Below.refl _ w).alloc (Nat.le_refl _) _
      have HB := Lib.hid hb
      clear hb
      go_enter Try.func18, Try.ntmps18
      go_wp2_with (go_at_call 37; (with_reducible refine (HWI.out _ HB.out).mono ?_); rintro e w5 ⟨A5, c5, rfl, h5, h6⟩; have Z5 := Lib.hid h5; have B5 := Lib.hid (below_step HB.out h6); clear h5 h6)
      go_ret
      exact ⟨A5, c5, _, rfl, Z5.out, HSET.out, B5.out⟩
    · rw [if_neg h3] at hm2
      subst hm2
      have hb : Below w.heap.size w (w.alloc (.cells #[.slice g.pA g.r.size g.pc, .slice g.lA g.r.loose.length g.lc, .int .i64 m, .bool g.r.down] 53)) := (Below.refl _ w).alloc (Nat.le_refl _) _
      have HB := Lib.hid hb
      clear hb
      go_enter Try.func18, Try.ntmps18
      go_wp2_with (go_at_call 37; (with_reducible refine (HWI.out _ HB.out).mono ?_); rintro e w5 ⟨A5, c5, rfl, h5, h6⟩; have Z5 := Lib.hid h5; have B5 := Lib.hid (below_step HB.out h6); clear h5 h6)
      go_ret
      exact ⟨A5, c5, _, rfl, Z5.out, HSET.out, B5.out⟩
end

end Go.Proofs.Ythbchloghbfnmaa
