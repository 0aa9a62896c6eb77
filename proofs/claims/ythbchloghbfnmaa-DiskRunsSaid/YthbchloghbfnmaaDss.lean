/- The walk of the law DiskSyncs. -/
import Derived.Test.YthbchloghbfnmaaDrf
namespace Go.Proofs.Ythbchloghbfnmaa
open Go.RowKit
set_option linter.unusedVariables false

/-- Two regions of four pages that never stop. -/
structure Sy (rs : List Rg) : Prop where
  len : rs.length = 2
  each : ∀ r ∈ rs, r.size = 4 ∧ r.down = false ∧ r.left = -1
theorem cntR_never {r : Rg} (h : r.left = -1) : cntR r = r := by
  unfold cntR
  rw [if_neg (by omega), if_neg (by omega)]
theorem Sy.wr {rs : List Rg} (h : Sy rs) (x p : Int) (l : List UInt8) : Sy (wrA rs x p l).1 := by
  refine ⟨by rw [set_len_wrA]; exact h.len, ?_⟩
  unfold wrA
  split
  · exact h.each
  · rename_i r hr
    obtain ⟨e1, e2, e3⟩ := h.each r (List.mem_of_getElem? (regN_some hr).2.2)
    rw [cntR_never e3]
    split
    · exact h.each
    · split
      · split
        · intro q hq
          rcases List.mem_or_eq_of_mem_set hq with hq | rfl
          · exact h.each q hq
          · exact ⟨e1, e2, e3⟩
        · exact h.each
      · exact h.each
theorem setK_same {K K' : Nat → Bool} : ∀ (l : List Wr) (i : Nat) (f : Int → Option (List UInt8)), (∀ j, i ≤ j → j < i + l.length → K j = K' j) → setK K i l f = setK K' i l f
  | [], i, f, h => rfl
  | x :: l, i, f, h => by
    simp only [setK]
    rw [h i (Nat.le_refl _) (by simp), setK_same l (i + 1) _ (fun j h1 h2 => h j (by omega) (by simp at h2 ⊢; omega))]
def ff6 : List UInt8 := [255, 255, 255, 255, 255, 255]
theorem ff6_bit : ∀ i, i < 48 → bitS ff6 i = true := by decide +kernel
theorem setR_ff {r : Rg} (h : r.loose.length ≤ 40) : setR (bitS ff6) r = setR allK r := by
  have e : setK (bitS ff6) 0 r.loose r.syn = setK allK 0 r.loose r.syn := setK_same r.loose 0 r.syn (fun j h1 h2 => (ff6_bit j (by omega)).trans rfl)
  unfold setR
  rw [e]
theorem upR_same {r : Rg} (h1 : r.down = false) (h2 : r.left = -1) : upR r = r := by
  cases r
  subst h1 h2
  rfl
/-- Both ways, the same is left. -/
theorem sy_both {rs : List Rg} (h : Sy rs) (hf : ∀ r ∈ rs, r.loose.length ≤ 40) :
    ∃ rf, (syA (syA rs 0).1 1).1 = rf ∧ crA [ff6, ff6] rs = rf ∧ ∀ (r p : Nat), r < 2 → p < 4 → rdE rf r p = 0 ∧ looL rf r = [] := by
  match rs, h, hf with
  | [r0, r1], h, hf =>
    obtain ⟨a1, a2, a3⟩ := h.each r0 (by simp)
    obtain ⟨b1, b2, b3⟩ := h.each r1 (by simp)
    have f0 := hf r0 (by simp)
    have f1 := hf r1 (by simp)
    have e0 : syA [r0, r1] 0 = ([setR allK r0, r1], 0) := by
      unfold syA
      rw [show regN [r0, r1] 0 = some r0 from rfl]
      simp only
      rw [cntR_never a3, a2]
      rfl
    have e1 : syA [setR allK r0, r1] 1 = ([setR allK r0, setR allK r1], 0) := by
      unfold syA
      rw [show regN [setR allK r0, r1] 1 = some r1 from rfl]
      simp only
      rw [cntR_never b3, b2]
      rfl
    refine ⟨[setR allK r0, setR allK r1], by rw [e0, e1], ?_, ?_⟩
    · show [upR (setR (bitS ff6) r0), upR (setR (bitS ff6) r1)] = _
      rw [setR_ff f0, setR_ff f1, upR_same (by exact a2) (by exact a3), upR_same (by exact b2) (by exact b3)]
    · intro r p hr hp
      have hh : ∀ q : Rg, q.size = 4 → q.down = false → (if q.down then (3 : Int) else if hasB q p then 0 else 2) = 0 := fun q h1 h2 => by
        simp [h2, hasB, h1]
        omega
      rcases (by omega : r = 0 ∨ r = 1) with rfl | rfl
      · exact ⟨hh (setR allK r0) a1 a2, rfl⟩
      · exact ⟨hh (setR allK r1) b1 b2, rfl⟩
theorem txts_two (w : World) (o : Obj) (ho : o = .cells #[.string ⟨#[255, 255, 255, 255, 255, 255]⟩, .string ⟨#[255, 255, 255, 255, 255, 255]⟩] 9) : Txts (w.alloc o) (some ⟨w.heap.size, 0, none⟩) 2 [ff6, ff6] := by
  subst ho
  refine ⟨rfl, fun hx => ⟨w.heap.size, 0, rfl, fun j u hj => ?_⟩, by omega, by simp [ff6]⟩
  have := (Has.made w 9 #[.string ⟨#[255, 255, 255, 255, 255, 255]⟩, .string ⟨#[255, 255, 255, 255, 255, 255]⟩]).cell (0 + j)
  exact this.trans (by rw [Nat.zero_add, ← hj]; simp [txtV, ff6])
theorem rd_any {l : List UInt8} {er : Int} (h0 : er = 0) {w w' : World} {e : Ending} (h : RdEnd l er w e w') : Below w.heap.size w w' ∧ ∃ g, e = .returned (.tuple #[.slice (some ⟨g, 0, none⟩) 128 128, .int .i64 0]) ∧ w.heap.size ≤ g ∧ Has w' g 88 (l.map byteV).toArray ∧ l.length = 128 := by
  subst h0
  exact rd_ok h
set_option maxRecDepth 100000 in
set_option maxHeartbeats 4000000 in
theorem walkSyncs (A : Option Addr) (n c : Nat) (l : List Sx) (w : World) (hl : StepsA w A n l) (hn : n ≤ 9223372036854775807) :
    Calls Try.prog 6 #[.slice A n c] w fun e w' => e = .returned (.bool true) ∧ Below w.heap.size w w' := by
  have HS := Lib.hid hl
  clear hl
  cases hsm : smB l with
  | false =>
    have hsm2 := Lib.hid hsm
    clear hsm
    go_enter Try.func6, Try.ntmps6
    go_wp2_with (first
      | (go_at_call 8; (with_reducible refine (awake06_any _).mono ?_); rintro e w1 ⟨rfl, h0⟩; have B1 := Lib.hid h0; clear h0)
      | (go_at_call 9; have hq := small_any _ n c l w1 (HS.out.below B1.out) hn; rw [hsm2.out] at hq; (with_reducible refine hq.mono ?_); clear hq; rintro e w2 ⟨rfl, rfl⟩))
    go_ret
    exact ⟨rfl, B1.out⟩
  | true =>
    have HM := Lib.hid hsm
    have hm : n ≤ 40 := by rw [HS.out.len]; exact smB_len hsm
    clear hsm hn
    obtain ⟨r0, hr0⟩ : ∃ q, ([4, 4].map fun x : Int => fresh6 x.toNat) = q := ⟨_, rfl⟩
    have HR0 := Lib.hid hr0
    have hsy : Sy r0 := by
      subst hr0
      refine ⟨rfl, fun r hr => ?_⟩
      simp [fresh6] at hr
      subst hr
      exact ⟨rfl, rfl, rfl⟩
    have HSY := Lib.hid hsy
    clear hr0 hsy
    go_enter Try.func6, Try.ntmps6
    go_wp2_with (first
      | (go_at_call 8; (with_reducible refine (awake06_any _).mono ?_); rintro e w1 ⟨rfl, h0⟩; have B1 := Lib.hid h0; clear h0)
      | (go_at_call 9; have hq := small_any _ n c l w1 (HS.out.below B1.out) (by omega); rw [HM.out] at hq; (with_reducible refine hq.mono ?_); clear hq; rintro e w2 ⟨rfl, rfl⟩)
      | (go_at_call 10; have hI : Ints6 (w1.alloc (.cells #[.int .i64 4, .int .i64 4] 3)) (some ⟨w1.heap.size, 0, none⟩) 2 [4, 4] := ints_lit w1 [4, 4] _ rfl; have hq := New_z (w0 := w) (c := 2) 0 hI (lo_none _ _) (below_alloc' B1.out _) (by decide); rw [HR0.out] at hq; (with_reducible refine hq.mono ?_); clear hq hI; rintro e w3 ⟨D, DA, T3, rfl, h1, _, _⟩; have Z3 := Lib.hid h1; clear h1)
      | (go_at_call 10; have hI : Ints6 (w3.alloc (.cells #[.int .i64 4, .int .i64 4] 3)) (some ⟨w3.heap.size, 0, none⟩) 2 [4, 4] := ints_lit w3 [4, 4] _ rfl; have ZZ := Z3.out.below ((Below.refl _ w3).alloc (Nat.le_refl _) (.cells #[.int .i64 4, .int .i64 4] 3)); have hq := New_z (w0 := w) (c := 2) 1 hI ZZ.lo ZZ.bel (by decide); rw [HR0.out] at hq; (with_reducible refine hq.mono ?_); clear hq hI; rintro e w4 ⟨E, EA, T4, rfl, h1, h2, _⟩; have Y4 := Lib.hid h1; have Z4 := Lib.hid (ZZ.other h2 (by decide)); clear h1 h2 ZZ))
    go_loopw [9] (fun i wr => ∃ (k : Nat) (rs : List Rg) (T : Tg), k ≤ n ∧ i = .int .i64 (k : Int) ∧ Dz w wr T 0 D DA k rs ∧ Dz w wr T 1 E EA k rs ∧ Sy rs) (fun i _ => n - (intOf i).toNat)
    case atStart => exact ⟨0, r0, T4, Nat.zero_le _, rfl, Z4.out, Y4.out, HSY.out⟩
    case round =>
      obtain ⟨k, rs, T, hk, rfl, hz, hy, hsy⟩ := hrel
      have HZ := Lib.hid hz
      have HY := Lib.hid hy
      have HSR := Lib.hid hsy
      clear hz hy hsy
      by_cases hlt : k < n
      · obtain ⟨x, b, off, hx, rfl, hbl, c0, c1, c2, c3, c4, c5⟩ := HS.out.at_ HZ.out.bel hlt
        have HX := Lib.hid hx
        clear hx
        have i1 : (k : Int) < n := by omega
        by_cases hk0 : x.s.kind = 0
        · have e0 : (x.s.kind == 0) = true := by simpa using hk0
          clear hk0
          have hmx : Try.prog.follows .mixedOrders = true := by kernel_rfl
          have hb0 : Below wr.heap.size wr (wr.alloc (.cells x.cells 35)) := (Below.refl _ wr).alloc (Nat.le_refl _) _
          have Z1 : Hid (Dz w (wr.alloc (.cells #[.int .i64 x.s.kind, .int .i64 x.s.region, .int .i64 x.s.page, .int .u8 (x.s.fill.toNat : Int), .bool x.s.short, .slice x.ka x.kn x.kc] 35)).drew T 0 D DA k rs) := Lib.hid ((HZ.out.below hb0).drew)
          have Y1 : Hid (Dz w (wr.alloc (.cells #[.int .i64 x.s.kind, .int .i64 x.s.region, .int .i64 x.s.page, .int .u8 (x.s.fill.toNat : Int), .bool x.s.short, .slice x.ka x.kn x.kc] 35)).drew T 1 E EA k rs) := Lib.hid ((HY.out.below hb0).drew)
          have X1 : Hid (Bk (wr.alloc (.cells #[.int .i64 x.s.kind, .int .i64 x.s.region, .int .i64 x.s.page, .int .u8 (x.s.fill.toNat : Int), .bool x.s.short, .slice x.ka x.kn x.kc] 35)).drew T wr.heap.size 35 x.cells) := Lib.hid ⟨Has.made wr 35 _, HZ.out.lo.un (Nat.le_refl _)⟩
          have HP := Lib.hid (fun w1 => show Calls Try.prog 13 #[.agg #[.int .i64 x.s.kind, .int .i64 x.s.region, .int .i64 x.s.page, .int .u8 (x.s.fill.toNat : Int), .bool x.s.short, .slice x.ka x.kn x.kc]] w1 (PgEnd (pgB x.s) w1) from page_any x.s x.kv rfl w1)
          clear hb0
          obtain ⟨er, her⟩ : ∃ q, (wrA rs x.s.region x.s.page (pgB x.s)).2 = q := ⟨_, rfl⟩
          have HER := Lib.hid her
          obtain ⟨rs', hrs'⟩ : ∃ q, (wrA rs x.s.region x.s.page (pgB x.s)).1 = q := ⟨_, rfl⟩
          have HRS := Lib.hid hrs'
          have HS2 : Hid (Sy rs') := Lib.hid (hrs' ▸ HSR.out.wr _ _ _)
          clear her hrs'
          go_wp2
          have hS : (fun w' : World => Sbox w' wr.heap.size x) _ := Sbox.of X1.out.has
          rename_i K hK
          refine wp_held (fun w' : World => Sbox w' wr.heap.size x) K hmx ?_ (fun _ _ h => h)
          refine wpAnyH_take (i := 0) (v := .pointer (some ⟨D, 0, none⟩)) rfl (by kernel_rfl) (by kernel_rfl) (by kernel_rfl) (fun _ _ _ h => h) (Or.inl ⟨by rfl, ?_⟩) hS ?_
          · rintro w6 ⟨c0, c1, c2, c3, c4, c5⟩
            go_simp
          simp only [Act.put, List.setIfInBounds_toArray, List.set_cons_zero, List.set_cons_succ, List.getElem_toArray, List.getElem_cons_zero]
          refine wpAnyH_take (i := 1) (v := .pointer (some ⟨wr.heap.size, 1, none⟩)) rfl (by kernel_rfl) (by kernel_rfl) (by kernel_rfl) (fun _ _ _ h => h) (Or.inl ⟨by rfl, ?_⟩) hS ?_
          · rintro w6 ⟨c0, c1, c2, c3, c4, c5⟩
            go_simp
          simp only [Act.put, List.setIfInBounds_toArray, List.set_cons_zero, List.set_cons_succ, List.getElem_toArray, List.getElem_cons_zero, List.getElem_cons_succ]
          refine wpAnyH_take (i := 2) (v := .int .i64 x.s.region) rfl (by kernel_rfl) (by kernel_rfl) (by kernel_rfl) (fun _ _ _ h => h) (Or.inl ⟨by rfl, ?_⟩) hS ?_
          · rintro w6 ⟨c0, c1, c2, c3, c4, c5⟩
            go_simp
          simp only [Act.put, List.setIfInBounds_toArray, List.set_cons_zero, List.set_cons_succ, List.getElem_toArray, List.getElem_cons_zero, List.getElem_cons_succ]
          refine wpAnyH_take (i := 3) (v := .pointer (some ⟨wr.heap.size, 2, none⟩)) rfl (by kernel_rfl) (by kernel_rfl) (by kernel_rfl) (fun _ _ _ h => h) (Or.inl ⟨by rfl, ?_⟩) hS ?_
          · rintro w6 ⟨c0, c1, c2, c3, c4, c5⟩
            go_simp
          simp only [Act.put, List.setIfInBounds_toArray, List.set_cons_zero, List.set_cons_succ, List.getElem_toArray, List.getElem_cons_zero, List.getElem_cons_succ]
          refine wpAnyH_take (i := 4) (v := .int .i64 x.s.page) rfl (by kernel_rfl) (by kernel_rfl) (by kernel_rfl) (fun _ _ _ h => h) (Or.inl ⟨by rfl, ?_⟩) hS ?_
          · rintro w6 ⟨c0, c1, c2, c3, c4, c5⟩
            go_simp
          simp only [Act.put, List.setIfInBounds_toArray, List.set_cons_zero, List.set_cons_succ, List.getElem_toArray, List.getElem_cons_zero, List.getElem_cons_succ]
          refine wpAnyH_take (i := 5) (v := .agg #[.int .i64 x.s.kind, .int .i64 x.s.region, .int .i64 x.s.page, .int .u8 (x.s.fill.toNat : Int), .bool x.s.short, .slice x.ka x.kn x.kc]) rfl (by kernel_rfl) (by kernel_rfl) (by kernel_rfl) (fun _ _ _ h => h) (Or.inl ⟨by rfl, ?_⟩) hS ?_
          · rintro w6 ⟨c0, c1, c2, c3, c4, c5⟩
            go_simp
          simp only [Act.put, List.setIfInBounds_toArray, List.set_cons_zero, List.set_cons_succ, List.getElem_toArray, List.getElem_cons_zero, List.getElem_cons_succ]
          refine wpAnyH_ready (rs := [6]) (by kernel_rfl) (by simp) ?_
          refine AllReadyH.cons rfl (fun K5 hK5 => ?_) AllReadyH.nil
          go_simp
          go_at_call 13
          (with_reducible refine (HP.out _).mono ?_)
          rintro e wp2 ⟨gp2, rfl, h2, h3, h4⟩
          have ZP2 := Lib.hid (Z1.out.below h4)
          have KP2 : Hid (Bk wp2 T gp2 5 _) := Lib.hid ⟨h3, Z1.out.lo.un h2⟩
          have XP2 := Lib.hid (X1.out.below h4)
          have Y2P := Lib.hid (Y1.out.below h4)
          clear h2 h3 h4
          have hS1 : (fun w' : World => Sbox w' wr.heap.size x) wp2 := Sbox.of XP2.out.has
          refine hK5.out _ _ hS1 (fun _ => ?_)
          clear hK5 K5
          refine wpAnyH_ready (rs := [7]) (by kernel_rfl) (by simp) ?_
          refine AllReadyH.cons rfl (fun K5 hK5 => ?_) AllReadyH.nil
          go_simp
          go_at_call 12
          have hq := Write_z x.s.region x.s.page (pgB x.s) gp2 ZP2.out (by omega) KP2.out
          rw [HER.out, HRS.out] at hq
          (with_reducible refine hq.mono ?_)
          clear hq
          rintro e w5 ⟨rfl, T5, h1, h2⟩
          have Z2 := Lib.hid h1
          have X2 := Lib.hid (XP2.out.tn h2)
          have Y2 := Lib.hid (Y2P.out.other h2 (by decide))
          clear h1 h2
          have hS2 : (fun w' : World => Sbox w' wr.heap.size x) w5 := Sbox.of X2.out.has
          refine hK5.out _ _ hS2 (fun _ => ?_)
          clear hK5 K5
          refine wpAnyH_take (i := 8) (v := .int .i64 er) rfl (by kernel_rfl) (by kernel_rfl) (by kernel_rfl) (fun _ _ _ h => h) (Or.inl ⟨by rfl, ?_⟩) hS2 ?_
          · rintro w6 ⟨c0, c1, c2, c3, c4, c5⟩
            go_simp
          simp only [Act.put, List.setIfInBounds_toArray, List.set_cons_zero, List.set_cons_succ, List.getElem_toArray, List.getElem_cons_zero, List.getElem_cons_succ]
          refine wpAnyH_done (by kernel_rfl) ?_ _
          refine hK _ _ ?_
          have Z2d := Lib.hid Z2.out.drew
          have Y2d := Lib.hid Y2.out.drew
          have X2d : Hid (Bk w5.drew T5 wr.heap.size 35 x.cells) := Lib.hid ⟨X2.out.has, X2.out.un⟩
          clear hS hS1 hS2
          go_wp2
          have hS : (fun w' : World => Sbox w' wr.heap.size x) _ := Sbox.of X2d.out.has
          rename_i K hK
          refine wp_held (fun w' : World => Sbox w' wr.heap.size x) K hmx ?_ (fun _ _ h => h)
          refine wpAnyH_take (i := 0) (v := .pointer (some ⟨E, 0, none⟩)) rfl (by kernel_rfl) (by kernel_rfl) (by kernel_rfl) (fun _ _ _ h => h) (Or.inl ⟨by rfl, ?_⟩) hS ?_
          · rintro w6 ⟨c0, c1, c2, c3, c4, c5⟩
            go_simp
          simp only [Act.put, List.setIfInBounds_toArray, List.set_cons_zero, List.set_cons_succ, List.getElem_toArray, List.getElem_cons_zero]
          refine wpAnyH_take (i := 1) (v := .pointer (some ⟨wr.heap.size, 1, none⟩)) rfl (by kernel_rfl) (by kernel_rfl) (by kernel_rfl) (fun _ _ _ h => h) (Or.inl ⟨by rfl, ?_⟩) hS ?_
          · rintro w6 ⟨c0, c1, c2, c3, c4, c5⟩
            go_simp
          simp only [Act.put, List.setIfInBounds_toArray, List.set_cons_zero, List.set_cons_succ, List.getElem_toArray, List.getElem_cons_zero, List.getElem_cons_succ]
          refine wpAnyH_take (i := 2) (v := .int .i64 x.s.region) rfl (by kernel_rfl) (by kernel_rfl) (by kernel_rfl) (fun _ _ _ h => h) (Or.inl ⟨by rfl, ?_⟩) hS ?_
          · rintro w6 ⟨c0, c1, c2, c3, c4, c5⟩
            go_simp
          simp only [Act.put, List.setIfInBounds_toArray, List.set_cons_zero, List.set_cons_succ, List.getElem_toArray, List.getElem_cons_zero, List.getElem_cons_succ]
          refine wpAnyH_take (i := 3) (v := .pointer (some ⟨wr.heap.size, 2, none⟩)) rfl (by kernel_rfl) (by kernel_rfl) (by kernel_rfl) (fun _ _ _ h => h) (Or.inl ⟨by rfl, ?_⟩) hS ?_
          · rintro w6 ⟨c0, c1, c2, c3, c4, c5⟩
            go_simp
          simp only [Act.put, List.setIfInBounds_toArray, List.set_cons_zero, List.set_cons_succ, List.getElem_toArray, List.getElem_cons_zero, List.getElem_cons_succ]
          refine wpAnyH_take (i := 4) (v := .int .i64 x.s.page) rfl (by kernel_rfl) (by kernel_rfl) (by kernel_rfl) (fun _ _ _ h => h) (Or.inl ⟨by rfl, ?_⟩) hS ?_
          · rintro w6 ⟨c0, c1, c2, c3, c4, c5⟩
            go_simp
          simp only [Act.put, List.setIfInBounds_toArray, List.set_cons_zero, List.set_cons_succ, List.getElem_toArray, List.getElem_cons_zero, List.getElem_cons_succ]
          refine wpAnyH_take (i := 5) (v := .agg #[.int .i64 x.s.kind, .int .i64 x.s.region, .int .i64 x.s.page, .int .u8 (x.s.fill.toNat : Int), .bool x.s.short, .slice x.ka x.kn x.kc]) rfl (by kernel_rfl) (by kernel_rfl) (by kernel_rfl) (fun _ _ _ h => h) (Or.inl ⟨by rfl, ?_⟩) hS ?_
          · rintro w6 ⟨c0, c1, c2, c3, c4, c5⟩
            go_simp
          simp only [Act.put, List.setIfInBounds_toArray, List.set_cons_zero, List.set_cons_succ, List.getElem_toArray, List.getElem_cons_zero, List.getElem_cons_succ]
          refine wpAnyH_ready (rs := [6]) (by kernel_rfl) (by simp) ?_
          refine AllReadyH.cons rfl (fun K5 hK5 => ?_) AllReadyH.nil
          go_simp
          go_at_call 13
          (with_reducible refine (HP.out _).mono ?_)
          rintro e wp3 ⟨gp3, rfl, h2, h3, h4⟩
          have ZP3 := Lib.hid (Y2d.out.below h4)
          have KP3 : Hid (Bk wp3 T5 gp3 5 _) := Lib.hid ⟨h3, Y2d.out.lo.un h2⟩
          have XP3 := Lib.hid (X2d.out.below h4)
          have Z3P := Lib.hid (Z2d.out.below h4)
          clear h2 h3 h4
          have hS1 : (fun w' : World => Sbox w' wr.heap.size x) wp3 := Sbox.of XP3.out.has
          refine hK5.out _ _ hS1 (fun _ => ?_)
          clear hK5 K5
          refine wpAnyH_ready (rs := [7]) (by kernel_rfl) (by simp) ?_
          refine AllReadyH.cons rfl (fun K5 hK5 => ?_) AllReadyH.nil
          go_simp
          go_at_call 12
          have hq := Write_z x.s.region x.s.page (pgB x.s) gp3 ZP3.out (by omega) KP3.out
          rw [HER.out, HRS.out] at hq
          (with_reducible refine hq.mono ?_)
          clear hq
          rintro e w6 ⟨rfl, T6, h1, h2⟩
          have Y3 := Lib.hid h1
          have X3 := Lib.hid (XP3.out.tn h2)
          have Z3 := Lib.hid (Z3P.out.other h2 (by decide))
          clear h1 h2
          have hS2 : (fun w' : World => Sbox w' wr.heap.size x) w6 := Sbox.of X3.out.has
          refine hK5.out _ _ hS2 (fun _ => ?_)
          clear hK5 K5
          refine wpAnyH_take (i := 8) (v := .int .i64 er) rfl (by kernel_rfl) (by kernel_rfl) (by kernel_rfl) (fun _ _ _ h => h) (Or.inl ⟨by rfl, ?_⟩) hS2 ?_
          · rintro w6 ⟨c0, c1, c2, c3, c4, c5⟩
            go_simp
          simp only [Act.put, List.setIfInBounds_toArray, List.set_cons_zero, List.set_cons_succ, List.getElem_toArray, List.getElem_cons_zero, List.getElem_cons_succ]
          refine wpAnyH_done (by kernel_rfl) ?_ _
          refine hK _ _ ?_
          go_wp2
          go_roundw
          case rel => exact ⟨k + 1, rs', T6, by omega, by go_num, Z3.out, Y3.out, HS2.out⟩
          case measure => simp [intOf]; omega
        · have e0 : (x.s.kind == 0) = false := by simpa using hk0
          have hb0 : Below wr.heap.size wr (wr.alloc (.cells x.cells 35)) := (Below.refl _ wr).alloc (Nat.le_refl _) _
          have Z1 := Lib.hid (HZ.out.below hb0)
          have Y1 := Lib.hid (HY.out.below hb0)
          clear hb0
          go_wp2
          go_roundw
          case rel => exact ⟨k + 1, rs, T, by omega, by go_num, Z1.out.more (by omega), Y1.out.more (by omega), HSR.out⟩
          case measure => simp [intOf]; omega
      · obtain rfl : k = n := by omega
        obtain ⟨rf, hf1, hf2, hf3⟩ := sy_both HSR.out (fun r hr => Nat.le_trans (HZ.out.few r hr) hm)
        have HF1 := Lib.hid hf1
        have HF2 := Lib.hid hf2
        have HF3 := Lib.hid hf3
        have hrl : rs.length ≤ 1000 := by rw [HSR.out.len]; omega
        clear hf1 hf2 hf3
        go_wp2_with (first
          | (go_at_call 15; have hq := Sync_z 0 HZ.out (by omega); (with_reducible refine hq.mono ?_); clear hq; rintro e w7 ⟨rfl, T7, h1, h2⟩; have Z7 := Lib.hid h1; have Y7 := Lib.hid (HY.out.other h2 (by decide)); clear h1 h2)
          | (go_at_call 15; have hq := Sync_z 1 Z7.out (by omega); (with_reducible refine hq.mono ?_); clear hq; rintro e w8 ⟨rfl, T8, h1, h2⟩; rw [HF1.out] at h1; have Z8 := Lib.hid h1; have Y8 := Lib.hid (Y7.out.other h2 (by decide)); clear h1 h2)
          | (go_at_call 19; have hT := txts_two w8 _ rfl; have hb8 := (Below.refl _ w8).alloc (Nat.le_refl _) (.cells #[.string ⟨#[255, 255, 255, 255, 255, 255]⟩, .string ⟨#[255, 255, 255, 255, 255, 255]⟩] 9); have Z8b := Z8.out.below hb8; have Y8b := Y8.out.below hb8; have hq := Crash_z (some ⟨w8.heap.size, 0, none⟩) 2 2 [ff6, ff6] Y8b (by omega) hT (fun _ a ha => by injection ha with ha; subst ha; exact Y8.out.lo.un (Nat.le_refl _)) hrl; rw [HF2.out] at hq; (with_reducible refine hq.mono ?_); clear hq; rintro e w9 ⟨rfl, T9, h1, h2⟩; have Y9 := Lib.hid h1; have Z9 := Lib.hid (Z8b.other h2 (by decide)); clear h1 h2 hT hb8 Z8b Y8b))
        go_loopw [13] (fun i wr => ∃ (r : Nat), r ≤ 2 ∧ i = .int .i64 (r : Int) ∧ Dz w wr T9 0 D DA k rf ∧ Dz w wr T9 1 E EA k rf) (fun i _ => 2 - (intOf i).toNat)
        case atStart => exact ⟨0, Nat.zero_le _, rfl, Z9.out, Y9.out⟩
        case round =>
          obtain ⟨r, hr, rfl, hz, hy⟩ := hrel
          have HZr := Lib.hid hz
          have HYr := Lib.hid hy
          clear hz hy
          by_cases hr2 : r < 2
          · have i2 : (r : Int) < 2 := by omega
            go_wp2
            go_loopw [14] (fun i wr => ∃ (q : Nat), q ≤ 4 ∧ i = .int .i64 (q : Int) ∧ Dz w wr T9 0 D DA k rf ∧ Dz w wr T9 1 E EA k rf) (fun i _ => 4 - (intOf i).toNat)
            case atStart => exact ⟨0, Nat.zero_le _, rfl, HZr.out, HYr.out⟩
            case round =>
              obtain ⟨q, hq4, rfl, hz, hy⟩ := hrel
              have HZq := Lib.hid hz
              have HYq := Lib.hid hy
              clear hz hy
              by_cases hq5 : q < 4
              · have i3 : (q : Int) < 4 := by omega
                have hrd := (HF3.out r q hr2 hq5).1
                obtain ⟨ly, hly⟩ : ∃ y, rdL rf r q = y := ⟨_, rfl⟩
                have HRA := Lib.hid (fun w1 (h1 : Dz w w1 T9 0 D DA k rf) => hly ▸ Read_z r q h1)
                have HRB := Lib.hid (fun w1 (h1 : Dz w w1 T9 1 E EA k rf) => hly ▸ Read_z r q h1)
                have HRD := Lib.hid hrd
                clear hly hrd
                go_wp2_with (first
                  | (go_at_call 21; (with_reducible refine (HRA.out _ HZq.out).mono ?_); intro e wa hr; obtain ⟨h1, gx, rfl, h3, h4, h5⟩ := rd_any HRD.out hr; have Za := Lib.hid (HZq.out.below h1); have Ya := Lib.hid (HYq.out.below h1); have Xa : Hid (Bk wa T9 gx 88 _) := Lib.hid ⟨h4, HZq.out.lo.un h3⟩; have HL5 := Lib.hid h5; clear hr h1 h3 h4 h5)
                  | (go_at_call 21; (with_reducible refine (HRB.out _ Ya.out).mono ?_); intro e wb hr; obtain ⟨h1, gy, rfl, h3, h4, h5⟩ := rd_any HRD.out hr; have Zb := Lib.hid (Za.out.below h1); have Yb := Lib.hid (Ya.out.below h1); have Xb := Lib.hid (Xa.out.below h1); have Vb : Hid (Bk wb T9 gy 88 _) := Lib.hid ⟨h4, Ya.out.lo.un h3⟩; have sx := str_reads (n := 128) (c := 128) HL5.out.symm Xb.out.reads; have sy := str_reads (n := 128) (c := 128) HL5.out.symm Vb.out.reads; clear hr h1 h3 h4 h5))
                go_roundw
                case rel => exact ⟨q + 1, by omega, by go_num, Zb.out, Yb.out⟩
                case measure => simp [intOf]; omega
              · obtain rfl : q = 4 := by omega
                have hlo := (HF3.out r 0 hr2 (by omega)).2
                have HLO := Lib.hid hlo
                clear hlo
                go_wp2_with (first
                  | (go_at_call 25; (have hq := Loose_z r HZq.out (by omega)); unfold IntsOut at hq; rw [HLO.out] at hq; (with_reducible refine hq.mono ?_); clear hq; rintro e wa ⟨vl, rfl, h1, h2⟩; obtain ⟨lAa, lca, rfl⟩ := own_slw h1; have Za := Lib.hid (HZq.out.below h2); have Ya := Lib.hid (HYq.out.below h2); clear h1 h2)
                  | (go_at_call 25; (have hq := Loose_z r Ya.out (by omega)); unfold IntsOut at hq; rw [HLO.out] at hq; (with_reducible refine hq.mono ?_); clear hq; rintro e wb ⟨vl, rfl, h1, h2⟩; obtain ⟨lAb, lcb, rfl⟩ := own_slw h1; have Zb := Lib.hid (Za.out.below h2); have Yb := Lib.hid (Ya.out.below h2); clear h1 h2))
                go_roundw
                case rel => exact ⟨r + 1, by omega, by go_num, Zb.out, Yb.out⟩
                case measure => simp [intOf]; omega
          · obtain rfl : r = 2 := by omega
            go_wp2
            go_ret
            exact ⟨rfl, HZr.out.bel⟩

end Go.Proofs.Ythbchloghbfnmaa
