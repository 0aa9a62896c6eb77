import Derived.Test.YtclaiigelgbpdaaJ04
import Derived.Test.YtclaiigelgbpdaaJ06
import Derived.Deep.AppendLies
/- Of a claim's texts, joined: Trh. No statement but in the last. -/
namespace Go.Proofs.Ytclaiigelgbpdaa
open Go.RowKit
set_option linter.unusedVariables false

def stN (w : World) (B : Nat) (v0 v1 v2 : Value) : World := ((w.setCell ⟨B, 0, none⟩ v0).setCell ⟨B, 1, none⟩ v1).setCell ⟨B, 2, none⟩ v2
theorem Has.setN {w : World} {B : Nat} {t : TypeId} {a0 a1 a2 : Value} (h : Has w B t #[a0, a1, a2]) (v0 v1 v2 : Value) : Has (stN w B v0 v1 v2) B t #[v0, v1, v2] := by
  have := ((h.store 0 v0).store 1 v1).store 2 v2
  simpa [stN] using this
theorem below_setN {b B : Nat} {a w : World} (h : Below b a w) (hB : b ≤ B) (v0 v1 v2 : Value) : Below b a (stN w B v0 v1 v2) :=
  ((h.setCell (p := ⟨B, 0, none⟩) hB v0).setCell (p := ⟨B, 1, none⟩) hB v1).setCell (p := ⟨B, 2, none⟩) hB v2
theorem heap_setN (w : World) (B : Nat) (v0 v1 v2 : Value) (g : Nat) (h : g ≠ B) : (stN w B v0 v1 v2).heap[g]? = w.heap[g]? :=
  (Below.heap_setCell _ ⟨B, 2, none⟩ v2 g h).trans ((Below.heap_setCell _ ⟨B, 1, none⟩ v1 g h).trans (Below.heap_setCell w ⟨B, 0, none⟩ v0 g h))
def keyE (s : List UInt8) : List CE → List CE
  | [] => []
  | e :: l => { e with k := s } :: l
def NewC (F : Nat → Prop) (w : World) (e : CE) (key : List UInt8) (lf : Bool) (l : List CE) : Prop :=
  (e.k = key ∧ e.d = [] ∧ e.pa = none ∧ e.pn = 0 ∧ e.pc = 0) ∧ e.kn = 1 ∧ ∃ v : NV, (v.p = 0 ∧ v.lf = lf) ∧ RwF F w e.ka 1 e.kc 3 (nvL v) ∧ RwF F w v.A v.n v.c 4 (flatC l)
theorem part_append {key w' : World} {P base g m cp : Nat} {e : TypeId} {s : Nat} {xs : List Value} (hv : (Value.slice none 0 0).ownBlock = none) (h : w'.ownsRow base e s (.slice (some ⟨g, 0, none⟩) (0 + m) cp) (0 + m) ([] ++ xs)) (hg : key.drew.grownBy w' (Value.slice none 0 0).ownBlock) (hl : (Value.slice none 0 0).ownBlock = some g ∨ g = key.drew.heap.size) :
    Below key.heap.size key w' ∧ g = key.heap.size ∧ RwF (fun q => q = g) w' (some ⟨g, 0, none⟩) m cp s xs ∧ ∃ cur, Has w' g e cur := by
  rw [hv] at hg hl
  have hgs : g = key.heap.size := by
    rcases hl with h | h
    · cases h
    · exact h
  have hb : Below key.heap.size key w' := ⟨hg.os, hg.tape, hg.output, hg.size, fun i hi => hg.block i hi (fun e => by cases e)⟩
  rw [Nat.zero_add, List.nil_append] at h
  rcases h.2 with ⟨h1, _⟩ | ⟨g', cap, cur, h1, h2, h3, h4, h5, h6, h7⟩
  · cases h1
  · injection h1 with e1 e2 e3
    injection e1 with e1
    injection e1 with e1 _ _
    subst e1 e3
    refine ⟨hb, hgs, ⟨h.1, h4, h5, fun e => (by cases e), fun hx => ⟨g, 0, rfl, rfl, fun j u hj => ?_⟩⟩, cur, h3⟩
    rw [← h7, List.getElem?_take] at hj
    split at hj
    · rw [(show Has w' g e cur from h3).cell, Nat.zero_add]
      simpa using hj
    · cases hj
theorem fin_row {q P B : Nat} {w w' : World} {A : Option Addr} {n c s : Nat} {xs : List Value} {v0 v1 v2 : Value} (h : RwF (fun g => g = q) w A n c s xs) (hb : Below w.heap.size w w') (hq : q ≠ P) (hB : B ≤ q) : RwF (fun g => B ≤ g) (stN w' P v0 v1 v2) A n c s xs :=
  h.move (fun g hg hl => ⟨by omega, (heap_setN w' P v0 v1 v2 g (by omega)).trans (hb.block g hl)⟩)
theorem first_key {w : World} {G n c : Nat} {es : List CE} {x : CE} {cur : Array Value} (h : RwF (fun q => q = G) w (some ⟨G, 0, none⟩) n c 4 (flatC es)) (hx : es[0]? = some x) (hc : Has w G 53 cur) :
    RwF (fun q => q = G) (w.setCell ⟨G, 0, none⟩ (.string ⟨#[]⟩)) (some ⟨G, 0, none⟩) n c 4 (flatC (keyE [] es)) := by
  obtain ⟨y, l, rfl⟩ : ∃ y l, es = y :: l := by
    cases es with
    | nil => simp at hx
    | cons y l => exact ⟨y, l, rfl⟩
  have hlen := h.len
  rw [flatC_cons] at hlen
  have hs : Has (w.setCell ⟨G, 0, none⟩ (.string ⟨#[]⟩)) G 53 (cur.setIfInBounds 0 (.string ⟨#[]⟩)) := hc.store 0 _
  obtain ⟨g, off, hA, hg, hr⟩ := h.reads (by rw [flatC_cons]; simp [ceV])
  injection hA with hA
  injection hA with e1 e2 _
  subst e1 e2
  refine ⟨by rw [keyE, flatC_cons, List.length_append] at *; exact hlen, h.room, h.most, h.nil, fun _ => ⟨G, 0, rfl, rfl, fun j u hj => ?_⟩⟩
  rw [hs.cell, Nat.zero_add]
  have h0 := hr 0 (.string ⟨y.k.toArray⟩) rfl
  rw [hc.cell] at h0
  have hsz : 0 < cur.size := (Array.getElem?_eq_some_iff.1 h0).1
  rw [keyE, flatC_cons] at hj
  cases j with
  | zero =>
    have e : u = .string ⟨#[]⟩ := by simpa [ceV] using hj.symm
    subst e
    rw [Array.getElem?_setIfInBounds_self, if_pos hsz]
  | succ j =>
    rw [Array.getElem?_setIfInBounds_ne (by omega)]
    have h1 := hr (j + 1) u (by rw [flatC_cons, ← hj]; rfl)
    rw [hc.cell, Nat.zero_add] at h1
    exact h1
def PartE (es ek : List CE) (k at_ n : Nat) (key : List UInt8) (lf : Bool) (bl : List CE) (B : Nat) (w : World) (r : Ending) (w' : World) : Prop :=
  Below B w w' ∧ ∃ ca cb A c x, r = .returned (.tuple #[.agg #[.int .i64 0, .bool false, .slice A (n + 1) c], .bool true]) ∧ ek[at_]? = some x ∧
    RwF (fun g => B ≤ g) w' A (n + 1) c 4 (flatC (es.take k ++ ([ca, cb] ++ es.drop (k + 1)))) ∧ NewC (fun g => B ≤ g) w' ca key lf (ek.take at_) ∧ NewC (fun g => B ≤ g) w' cb x.k lf bl
set_option maxRecDepth 100000 in
set_option maxHeartbeats 4000000 in
theorem r15parted_es (F : Nat → Prop) (v vk : NV) (es ek : List CE) (e : CE) (k : Nat) (w : World) (h : RwF F w v.A v.n v.c 4 (flatC es)) (hn : es.length ≤ 200) (he : es[k]? = some e) (hen : e.kn = 1) (hk : RwF F w e.ka 1 e.kc 3 (nvL vk)) (hkr : RwF F w vk.A vk.n vk.c 4 (flatC ek)) (hb : BndC ek) :
    Calls Try.prog 43 #[nvV v, .int .i64 (k : Int)] w fun r w' => Below w.heap.size w w' ∧
      ((atZ (ek.map (szC vk.lf)) = 0 ∧ r = .returned (.tuple #[nvV v, .bool false])) ∨
       (atZ (ek.map (szC vk.lf)) ≠ 0 ∧ ∃ ca cb A c x, r = .returned (.tuple #[.agg #[.int .i64 0, .bool false, .slice A (es.length + 1) c], .bool true]) ∧ ek[atZ (ek.map (szC vk.lf))]? = some x ∧
        RwF (fun g => w.heap.size ≤ g) w' A (es.length + 1) c 4 (flatC (es.take k ++ ([ca, cb] ++ es.drop (k + 1)))) ∧
        NewC (fun g => w.heap.size ≤ g) w' ca e.k vk.lf (ek.take (atZ (ek.map (szC vk.lf)))) ∧ NewC (fun g => w.heap.size ≤ g) w' cb x.k vk.lf (if vk.lf = true then ek.drop (atZ (ek.map (szC vk.lf))) else keyE [] (ek.drop (atZ (ek.map (szC vk.lf))))))) := by
  obtain ⟨p, lf, A, n, c⟩ := v
  obtain ⟨p2, lf2, A2, n2, c2⟩ := vk
  simp only at h hkr ⊢
  unfold nvV
  simp only
  have hlen := h.len4
  have hlen2 := hkr.len4
  have hkn := (List.getElem?_eq_some_iff.1 he).1
  rw [← hlen] at hkn hn ⊢
  have HN := Lib.hid hlen
  have HN2 := Lib.hid hlen2
  obtain ⟨g, off, rfl, hFg, q0, q1, q2, q3⟩ := h.at4 he
  obtain ⟨kg, koff, hka, hFk, hkc⟩ := hk.reads (by simp [nvL])
  rw [hka, hen] at q3
  have d0 := hkc 0 _ rfl
  have d1 := hkc 1 _ rfl
  have d2 := hkc 2 _ rfl
  simp only [Nat.add_zero] at d0
  obtain ⟨W, hW⟩ : ∃ W, (w.alloc (.cells #[.int .i64 p, .bool lf, .slice (some ⟨g, off, none⟩) n c] 33)).alloc (.cells #[.int .i64 0, .bool false, .slice none 0 0] 33) = W := ⟨_, rfl⟩
  have hB0 : Below w.heap.size w W := hW ▸ ((Below.refl _ w).alloc (Nat.le_refl _) _).alloc (by simp) _
  have hX2 : Has W w.heap.size 33 #[.int .i64 p, .bool lf, .slice (some ⟨g, off, none⟩) n c] := hW ▸ (Has.made w 33 _).alloc _
  have hX4 : Has W (w.heap.size + 1) 33 #[.int .i64 0, .bool false, .slice none 0 0] := hW ▸ (by have := Has.made (w.alloc (.cells #[.int .i64 p, .bool lf, .slice (some ⟨g, off, none⟩) n c] 33)) 33 #[.int .i64 0, .bool false, .slice none 0 0]; simpa using this)
  obtain ⟨W6, hW6⟩ : ∃ W6, W.alloc (.cells #[.int .i64 p2, .bool lf2, .slice A2 n2 c2] 33) = W6 := ⟨_, rfl⟩
  have hB6 : Below W.heap.size W W6 := hW6 ▸ (Below.refl _ W).alloc (Nat.le_refl _) _
  have hX6 : Has W6 W.heap.size 33 #[.int .i64 p2, .bool lf2, .slice A2 n2 c2] := hW6 ▸ Has.made W 33 _
  have hsz := sizes_siz (lf := lf2) hb
  have HSZ := Lib.hid (r15Sizes_es F ⟨p2, lf2, A2, n2, c2⟩ ek W6 (hkr.below (below_step hB0 hB6)) hb)
  have HAT := Lib.hid (fun A c w1 h1 => r14At_any (ek.map (szC lf2)) A ek.length c w1 h1 hsz)
  obtain ⟨at_, hat⟩ : ∃ x, atZ (ek.map (szC lf2)) = x := ⟨_, rfl⟩
  have hin : at_ ≠ 0 → 1 ≤ at_ ∧ at_ < ek.length := fun hz => by
    rw [← hat] at hz ⊢
    have := atZ_in (l := ek.map (szC lf2)) (fun hh => hz (atZ_zero hh))
    rw [List.length_map] at this
    exact this
  rw [hat] at HAT ⊢
  unfold nvV at HSZ
  simp only at HSZ
  have c2x := hX2.cell 2
  have e0 := cell_below d0 hB0
  have e1 := cell_below d1 hB0
  have e2 := cell_below d2 hB0
  have s3 := cell_below q3 hB0
  have i0 : (0 : Int) ≤ (k : Int) := by omega
  have i1 : (k : Int) < (n : Int) := by omega
  have y0 := hX6.cell 0
  have y1 := hX6.cell 1
  have y2 := hX6.cell 2
  obtain ⟨P2, hP2⟩ : ∃ P, w.heap.size = P := ⟨_, rfl⟩
  obtain ⟨P4, hP4⟩ : ∃ P, P2 + 1 = P := ⟨_, rfl⟩
  obtain ⟨P6, hP6⟩ : ∃ P, W.heap.size = P := ⟨_, rfl⟩
  rw [hP2] at hX2 c2x
  rw [hP2, hP4] at hX4
  rw [hP6] at hX6 y0 y1 y2
  have HX2 := Lib.hid hX2
  have HX4 := Lib.hid hX4
  have HX6 := Lib.hid hX6
  have HB0 := Lib.hid hB0
  have HB6 := Lib.hid hB6
  have HIN := Lib.hid hin
  have hPl : P2 < P4 ∧ P4 < P6 := by have := hX4.lt; omega
  clear hlen hlen2 hat hka hen hX2 hX4 hX6 hB0 hB6 hin
  obtain ⟨bl, hbl⟩ : ∃ x, (if lf2 = true then ek.drop at_ else keyE [] (ek.drop at_)) = x := ⟨_, rfl⟩
  rw [hbl]
  have HBL := Lib.hid hbl
  clear hbl
  by_cases hz : at_ = 0
  · subst hz
    go_enter Try.func43, Try.ntmps43
    go_wp2_with (first
      | (go_at_call 41; (with_reducible refine HSZ.out.mono ?_); rintro r7 w7 ⟨A7, c7, rfl, h7, b7⟩; have B7 : Below W.heap.size W w7 := below_step HB6.out b7; have X2 := HX2.out.below B7 HX2.out.lt; have X4 := HX4.out.below B7 HX4.out.lt; have u0 := X2.cell 0; have u1 := X2.cell 1; have u2 := X2.cell 2; have v0 := X4.cell 0; have v1 := X4.cell 1; have v2 := X4.cell 2; have g0 := X4.free 0; have g1 := X4.free 1; have g2 := X4.free 2; have X4H := Lib.hid X4; have B7H := Lib.hid (below_step HB0.out B7); clear X2 X4 B7)
      | (go_at_call 40; (with_reducible refine (HAT.out _ _ _ h7).mono ?_); rintro r8 w8 ⟨rfl, rfl⟩))
    have XE := X4H.out.setN (.int .i64 p) (.bool lf) (.slice (some ⟨g, off, none⟩) n c)
    have z0 := XE.cell 0
    have z1 := XE.cell 1
    have z2 := XE.cell 2
    unfold stN at z0 z1 z2
    simp at z0 z1 z2
    refine ⟨rfl, .tuple #[.agg #[.int .i64 p, .bool lf, .slice (some ⟨g, off, none⟩) n c], .bool false], ?_, ?_⟩
    · simp [results, Try.f43, go_sem, z0, z1, z2]
    · exact ⟨below_setN (hP2 ▸ B7H.out) (by omega) _ _ _, .inl ⟨by simp, rfl⟩⟩
  · obtain ⟨ha1, ha2⟩ := HIN.out hz
    obtain ⟨x, hx⟩ : ∃ x, ek[at_]? = some x := ⟨_, List.getElem?_eq_getElem ha2⟩
    suffices hsuf : Calls Try.prog 43 #[.agg #[.int .i64 p, .bool lf, .slice (some ⟨g, off, none⟩) n c], .int .i64 (k : Int)] w (PartE es ek k at_ n e.k lf2 bl P2 w) by
      refine hsuf.mono ?_
      rintro r w' ⟨h1, h2⟩
      rw [hP2]
      exact ⟨h1, .inr ⟨hz, h2⟩⟩
    have hn2 : n2 ≤ 100 := by rw [HN2.out]; exact hb.1
    have hat2 : at_ < n2 := by rw [HN2.out]; exact ha2
    have hz2 : ((at_ : Int) == 0) = false := by simpa using hz
    obtain ⟨g2, off2, rfl, hFg2, hrd2⟩ := hkr.reads (by rw [flatC_len, ← HN2.out]; omega)
    rw [← HN2.out] at HAT HSZ
    clear hz ha2
    go_enter Try.func43, Try.ntmps43
    go_wp2_with (first
      | (go_at_call 41; (with_reducible refine HSZ.out.mono ?_); rintro r7 w7 ⟨A7, c7, rfl, h7, b7⟩; have B7 : Below W.heap.size W w7 := below_step HB6.out b7; obtain ⟨W9, hW9⟩ : ∃ W9, (w7.alloc (.cells #[.int .i64 0, .bool lf2, .slice none 0 0] 33)).alloc (.cells #[.int .i64 0, .bool lf2, .slice none 0 0] 33) = W9 := ⟨_, rfl⟩; have b9 : Below w7.heap.size w7 W9 := hW9 ▸ ((Below.refl _ w7).alloc (Nat.le_refl _) _).alloc (by simp) _; have hX8 : Has W9 w7.heap.size 33 #[.int .i64 0, .bool lf2, .slice none 0 0] := hW9 ▸ (Has.made w7 33 _).alloc _; have hX9 : Has W9 (w7.heap.size + 1) 33 #[.int .i64 0, .bool lf2, .slice none 0 0] := hW9 ▸ (by have := Has.made (w7.alloc (.cells #[.int .i64 0, .bool lf2, .slice none 0 0] 33)) 33 #[.int .i64 0, .bool lf2, .slice none 0 0]; simpa using this); have X6 := HX6.out.below b7 HX6.out.lt; have y0 := X6.cell 0; have y1 := X6.cell 1; have y2 := X6.cell 2; have y81 := (X6.alloc (.cells #[.int .i64 0, .bool lf2, .slice none 0 0] 33)).cell 1; have HP7 : Hid (P6 < w7.heap.size) := Lib.hid (Nat.lt_of_lt_of_le HX6.out.lt b7.size); have B9 := Lib.hid (below_step B7 b9); have HX8 := Lib.hid hX8; have HX9 := Lib.hid hX9; have hq1 := HX8.out.lt; have HW9 := Lib.hid hW9; clear hW9 hX8 hX9 b9 B7)
      | (go_at_call 40; (with_reducible refine (HAT.out _ _ _ h7).mono ?_); rintro r8 w8 ⟨rfl, rfl⟩))
    rw [HW9.out]
    obtain ⟨P8, hP8⟩ : ∃ P, w7.heap.size = P := ⟨_, rfl⟩
    obtain ⟨P9, hP9⟩ : ∃ P, P8 + 1 = P := ⟨_, rfl⟩
    rw [hP8] at HX8 HX9 HP7 hq1 ⊢
    rw [hP9] at HX9 ⊢
    have HSZ9 : Hid (W9.heap.size = P8 + 2) := Lib.hid (by rw [← HW9.out, ← hP8]; simp)
    have b79 : Below w7.heap.size w7 W9 := by rw [← HW9.out]; exact ((Below.refl _ w7).alloc (Nat.le_refl _) _).alloc (by simp) _
    have X69 : Has W9 P6 33 #[.int .i64 p2, .bool lf2, .slice (some ⟨g2, off2, none⟩) n2 c2] := HX6.out.below (below_step b7 b79) HX6.out.lt
    have hB9 : Below W.heap.size W W9 := B9.out
    have hBw9 : Below w.heap.size w W9 := below_step HB0.out hB9
    have hkr9 := hkr.below hBw9
    have hc2a := hkr.room
    have hc2b := hkr.most
    have hc2c : c2 ≤ 9223372036854775807 := by unfold maxLen at hc2b; omega
    have HFR := Lib.hid (hkr.front (k := at_) (by omega))
    have HBK := Lib.hid (hkr.back (k := at_) (by omega))
    rw [if_neg (show ¬ c2 = at_ by omega), ← flatC_drop, show Option.map (fun x : Addr => x.add (at_ * 4)) (some ⟨g2, off2, none⟩) = some ⟨g2, off2 + at_ * 4, none⟩ from by simp [add_plain]] at HBK
    rw [← flatC_take] at HFR
    have HBW9 := Lib.hid hBw9
    have X69H := Lib.hid X69
    have x62 := X69.cell 2
    have x82 := HX8.out.cell 2
    obtain ⟨ti, hi, hz0, hz1, hz2t⟩ := info_parts c15info
    have hmx : Try.prog.follows .mixedOrders = true := by kernel_rfl
    have i3 : (0 : Int) ≤ (at_ : Int) := by omega
    have i4 : (at_ : Int) ≤ (n2 : Int) := by omega
    have i5 : (at_ : Int) ≤ (c2 : Int) := by omega
    have hord : P2 < P4 ∧ P4 < P6 ∧ P6 < P8 ∧ P8 < P9 ∧ P9 < W9.heap.size ∧ w.heap.size ≤ P2 := ⟨hPl.1, hPl.2, HP7.out, by omega, HX9.out.lt, by omega⟩
    clear b79 hsz hB9 hkr9 X69 hP8 hP9 h7 b7 HAT HSZ HW9 y0 y1 y2 c2x e0 e1 e2 s3 d0 d1 d2 q0 q1 q2 q3 HP7 y81
    have hC7 : W9.drew.cell? ⟨P8, 2, none⟩ = some (.slice none 0 0) ∧ W9.drew.cell? ⟨P6, 2, none⟩ = some (.slice (some ⟨g2, off2, none⟩) n2 c2) := ⟨x82, x62⟩
    have f82 := HX8.out.free 2
    rename_i K hK
    refine wp_heldK (fun w' : World => w'.cell? ⟨P8, 2, none⟩ = some (.slice none 0 0) ∧ w'.cell? ⟨P6, 2, none⟩ = some (.slice (some ⟨g2, off2, none⟩) n2 c2)) 8 K hmx ?_ (fun _ _ h => h)
    refine wpAnyK_pure (i := 0) (v := .pointer (some ⟨P8, 2, none⟩)) rfl (by kernel_rfl) (by kernel_rfl) (by kernel_rfl) (by decide) (fun _ _ _ h => h) (Or.inl ⟨by rfl, ?_⟩) (.inr hC7) ?_
    · intro w6 _
      go_simp
    simp only [Act.put, List.setIfInBounds_toArray, List.set_cons_zero, List.set_cons_succ, List.getElem_toArray, List.getElem_cons_zero]
    refine wpAnyK_take (i := 1) (v := .slice none 0 0) rfl (by kernel_rfl) (by kernel_rfl) (by kernel_rfl) (by kernel_rfl) (by decide) (by kernel_rfl) (fun _ _ _ h => h) (Or.inl ⟨by rfl, ?_⟩) hC7 ?_
    · rintro w6 ⟨s1, s2⟩
      go_simp
    simp only [Act.put, List.setIfInBounds_toArray, List.set_cons_zero, List.set_cons_succ, List.getElem_toArray, List.getElem_cons_zero, List.getElem_cons_succ]
    refine wpAnyK_pure (i := 2) (v := .pointer (some ⟨P6, 2, none⟩)) rfl (by kernel_rfl) (by kernel_rfl) (by kernel_rfl) (by decide) (fun _ _ _ h => h) (Or.inl ⟨by rfl, ?_⟩) (.inr hC7) ?_
    · intro w6 _
      go_simp
    simp only [Act.put, List.setIfInBounds_toArray, List.set_cons_zero, List.set_cons_succ, List.getElem_toArray, List.getElem_cons_zero, List.getElem_cons_succ]
    refine wpAnyK_take (i := 3) (v := .slice (some ⟨g2, off2, none⟩) n2 c2) rfl (by kernel_rfl) (by kernel_rfl) (by kernel_rfl) (by kernel_rfl) (by decide) (by kernel_rfl) (fun _ _ _ h => h) (Or.inl ⟨by rfl, ?_⟩) hC7 ?_
    · rintro w6 ⟨s1, s2⟩
      go_simp
    simp only [Act.put, List.setIfInBounds_toArray, List.set_cons_zero, List.set_cons_succ, List.getElem_toArray, List.getElem_cons_zero, List.getElem_cons_succ]
    refine wpAnyK_pure (i := 4) (v := .int .i64 (at_ : Int)) rfl (by kernel_rfl) (by kernel_rfl) (by kernel_rfl) (by decide) (fun _ _ _ h => h) (Or.inl ⟨by rfl, ?_⟩) (.inr hC7) ?_
    · intro w6 _
      go_simp
    simp only [Act.put, List.setIfInBounds_toArray, List.set_cons_zero, List.set_cons_succ, List.getElem_toArray, List.getElem_cons_zero, List.getElem_cons_succ]
    refine wpAnyK_pure (i := 5) (v := .slice (some ⟨g2, off2, none⟩) at_ c2) rfl (by kernel_rfl) (by kernel_rfl) (by kernel_rfl) (by decide) (fun _ _ _ h => h) (Or.inl ⟨by rfl, ?_⟩) (.inr hC7) ?_
    · intro w6 _
      go_simp
    simp only [Act.put, List.setIfInBounds_toArray, List.set_cons_zero, List.set_cons_succ, List.getElem_toArray, List.getElem_cons_zero, List.getElem_cons_succ]
    refine wpAnyK_one (i := 6) (by kernel_rfl) rfl (fun K5 hK5 => ?_)
    refine step_append_lies _ rfl _ _ 31 rfl P2 53 ti _ 4 80 Try.underlying31 hi hz0 hz1 hz2t rfl (by decide) _ 0 [] rfl (World.ownsRow_nil _ P2 53 4) ⟨g2, off2, none⟩ at_ _ (flatC (ek.take at_)) rfl (HFR.out.len) ?_ (one_cells _) (by omega) (by unfold maxLen; omega) (by omega) ?_ _ rfl ?_
    · intro j u hj
      obtain ⟨g3, o3, hA3, _, hc3⟩ := (HFR.out.below HBW9.out).reads (by have := (List.getElem?_eq_some_iff.1 hj).1; omega)
      injection hA3 with hA3
      rw [hA3, add_plain]
      exact hc3 j u hj
    · show P2 ≤ W9.heap.size; have := HBW9.out.size; omega
    intro gn10 cp10 w10 h10 k10 l10 m10
    obtain ⟨b10, x10, r10, n10⟩ := part_append (key := W9) (P := P8) rfl h10 k10 l10
    have hC10 : w10.cell? ⟨P8, 2, none⟩ = some (.slice none 0 0) ∧ w10.cell? ⟨P6, 2, none⟩ = some (.slice (some ⟨g2, off2, none⟩) n2 c2) := ⟨cell_below x82 b10, cell_below x62 b10⟩
    have f10 := (HX8.out.below b10 HX8.out.lt).free 2
    rw [Nat.zero_add]
    have X10 := Lib.hid x10
    clear h10 k10 l10 m10 x10
    refine hK5.out _ _ (.inr hC10) ?_
    clear hK5 K5
    simp only [Act.put, List.setIfInBounds_toArray, List.set_cons_zero, List.set_cons_succ, List.getElem_toArray, List.getElem_cons_zero, List.getElem_cons_succ]
    refine wpAnyK_pure (i := 7) (v := .pointer (some ⟨P8, 2, none⟩)) rfl (by kernel_rfl) (by kernel_rfl) (by kernel_rfl) (by decide) (fun _ _ _ h => h) (Or.inl ⟨by rfl, ?_⟩) (.inr hC10) ?_
    · intro w6 _
      go_simp
    simp only [Act.put, List.setIfInBounds_toArray, List.set_cons_zero, List.set_cons_succ, List.getElem_toArray, List.getElem_cons_zero, List.getElem_cons_succ]
    refine wpAnyK_one (i := 8) (by kernel_rfl) rfl (fun K5 hK5 => ?_)
    go_simp
    refine hK5.out _ _ (.inl (by kernel_rfl)) ?_
    clear hK5 K5
    refine wpAnyK_done (by kernel_rfl) ?_ _
    refine hK _ _ ?_
    obtain ⟨W10, hW10⟩ : ∃ W, w10.setCell ⟨P8, 2, none⟩ (.slice (some ⟨gn10, 0, none⟩) at_ cp10) = W := ⟨_, rfl⟩
    have G10 : W9.grownBy W10 (some P8) := hW10 ▸ only_store (only_of_below b10 (Nat.le_refl _)) 2 _
    have Y10 : Has W10 P8 33 #[.int .i64 0, .bool lf2, .slice (some ⟨gn10, 0, none⟩) at_ cp10] := hW10 ▸ (by have := (HX8.out.below b10 HX8.out.lt).store 2 (.slice (some ⟨gn10, 0, none⟩) at_ cp10); simpa using this)
    have hne10 : gn10 ≠ P8 := by have := HX8.out.lt; have := X10.out; omega
    have R10 : RwF (fun q => q = gn10) W10 (some ⟨gn10, 0, none⟩) at_ cp10 4 (flatC (ek.take at_)) := hW10 ▸ r10.move (fun q hq _ => ⟨hq, Below.heap_setCell _ _ _ q (by subst hq; exact hne10)⟩)
    rw [hW10]
    have H9a : Has W10 P9 33 #[.int .i64 0, .bool lf2, .slice none 0 0] := HX9.out.grown G10 (by intro e; injection e with e; omega)
    have X6a : Has W10 P6 33 #[.int .i64 p2, .bool lf2, .slice (some ⟨g2, off2, none⟩) n2 c2] := X69H.out.grown G10 (by intro e; injection e with e; omega)
    have hBw10 : Below w.heap.size w W10 := hBw9.trans (below_only G10 (by omega) (by omega))
    have HBW10 := Lib.hid hBw10
    have hC8 : W10.drew.cell? ⟨P9, 2, none⟩ = some (.slice none 0 0) ∧ W10.drew.cell? ⟨P6, 2, none⟩ = some (.slice (some ⟨g2, off2, none⟩) n2 c2) := ⟨H9a.cell 2, X6a.cell 2⟩
    have x92 := H9a.cell 2
    have x62a := X6a.cell 2
    have hs10 : W9.heap.size ≤ W10.heap.size := G10.size
    have hna : ¬ c2 = at_ := by omega
    clear hC7 hC10 hW10
    go_wp2
    rename_i K hK
    refine wp_heldK (fun w' : World => w'.cell? ⟨P9, 2, none⟩ = some (.slice none 0 0) ∧ w'.cell? ⟨P6, 2, none⟩ = some (.slice (some ⟨g2, off2, none⟩) n2 c2)) 8 K hmx ?_ (fun _ _ h => h)
    refine wpAnyK_pure (i := 0) (v := .pointer (some ⟨P9, 2, none⟩)) rfl (by kernel_rfl) (by kernel_rfl) (by kernel_rfl) (by decide) (fun _ _ _ h => h) (Or.inl ⟨by rfl, ?_⟩) (.inr hC8) ?_
    · intro w6 _
      go_simp
    simp only [Act.put, List.setIfInBounds_toArray, List.set_cons_zero, List.set_cons_succ, List.getElem_toArray, List.getElem_cons_zero]
    refine wpAnyK_take (i := 1) (v := .slice none 0 0) rfl (by kernel_rfl) (by kernel_rfl) (by kernel_rfl) (by kernel_rfl) (by decide) (by kernel_rfl) (fun _ _ _ h => h) (Or.inl ⟨by rfl, ?_⟩) hC8 ?_
    · rintro w6 ⟨s1, s2⟩
      go_simp
    simp only [Act.put, List.setIfInBounds_toArray, List.set_cons_zero, List.set_cons_succ, List.getElem_toArray, List.getElem_cons_zero, List.getElem_cons_succ]
    refine wpAnyK_pure (i := 2) (v := .pointer (some ⟨P6, 2, none⟩)) rfl (by kernel_rfl) (by kernel_rfl) (by kernel_rfl) (by decide) (fun _ _ _ h => h) (Or.inl ⟨by rfl, ?_⟩) (.inr hC8) ?_
    · intro w6 _
      go_simp
    simp only [Act.put, List.setIfInBounds_toArray, List.set_cons_zero, List.set_cons_succ, List.getElem_toArray, List.getElem_cons_zero, List.getElem_cons_succ]
    refine wpAnyK_take (i := 3) (v := .slice (some ⟨g2, off2, none⟩) n2 c2) rfl (by kernel_rfl) (by kernel_rfl) (by kernel_rfl) (by kernel_rfl) (by decide) (by kernel_rfl) (fun _ _ _ h => h) (Or.inl ⟨by rfl, ?_⟩) hC8 ?_
    · rintro w6 ⟨s1, s2⟩
      go_simp
    simp only [Act.put, List.setIfInBounds_toArray, List.set_cons_zero, List.set_cons_succ, List.getElem_toArray, List.getElem_cons_zero, List.getElem_cons_succ]
    refine wpAnyK_pure (i := 4) (v := .int .i64 (at_ : Int)) rfl (by kernel_rfl) (by kernel_rfl) (by kernel_rfl) (by decide) (fun _ _ _ h => h) (Or.inl ⟨by rfl, ?_⟩) (.inr hC8) ?_
    · intro w6 _
      go_simp
    simp only [Act.put, List.setIfInBounds_toArray, List.set_cons_zero, List.set_cons_succ, List.getElem_toArray, List.getElem_cons_zero, List.getElem_cons_succ]
    refine wpAnyK_pure (i := 5) (v := .slice (some ⟨g2, off2 + at_ * 4, none⟩) (n2 - at_) (c2 - at_)) rfl (by kernel_rfl) (by kernel_rfl) (by kernel_rfl) (by decide) (fun _ _ _ h => h) (Or.inl ⟨by rfl, ?_⟩) (.inr hC8) ?_
    · intro w6 _
      go_simp
    simp only [Act.put, List.setIfInBounds_toArray, List.set_cons_zero, List.set_cons_succ, List.getElem_toArray, List.getElem_cons_zero, List.getElem_cons_succ]
    refine wpAnyK_one (i := 6) (by kernel_rfl) rfl (fun K5 hK5 => ?_)
    refine step_append_lies _ rfl _ _ 31 rfl P2 53 ti _ 4 80 Try.underlying31 hi hz0 hz1 hz2t rfl (by decide) _ 0 [] rfl (World.ownsRow_nil _ P2 53 4) ⟨g2, off2 + at_ * 4, none⟩ (n2 - at_) _ (flatC (ek.drop at_)) rfl (HBK.out.len) ?_ (one_cells _) (by omega) (by unfold maxLen; omega) (by omega) ?_ _ rfl ?_
    · intro j u hj
      obtain ⟨g3, o3, hA3, _, hc3⟩ := (HBK.out.below HBW10.out).reads (by have := (List.getElem?_eq_some_iff.1 hj).1; omega)
      injection hA3 with hA3
      rw [hA3, add_plain]
      exact hc3 j u hj
    · show P2 ≤ W10.heap.size; have := HBW10.out.size; omega
    intro gn11 cp11 w11 h11 k11 l11 m11
    obtain ⟨b11, x11, r11, n11⟩ := part_append (key := W10) (P := P9) rfl h11 k11 l11
    have hC11 : w11.cell? ⟨P9, 2, none⟩ = some (.slice none 0 0) ∧ w11.cell? ⟨P6, 2, none⟩ = some (.slice (some ⟨g2, off2, none⟩) n2 c2) := ⟨cell_below x92 b11, cell_below x62a b11⟩
    have f11 := (H9a.below b11 H9a.lt).free 2
    rw [Nat.zero_add]
    have X11 := Lib.hid x11
    clear h11 k11 l11 m11 x11
    refine hK5.out _ _ (.inr hC11) ?_
    clear hK5 K5
    simp only [Act.put, List.setIfInBounds_toArray, List.set_cons_zero, List.set_cons_succ, List.getElem_toArray, List.getElem_cons_zero, List.getElem_cons_succ]
    refine wpAnyK_pure (i := 7) (v := .pointer (some ⟨P9, 2, none⟩)) rfl (by kernel_rfl) (by kernel_rfl) (by kernel_rfl) (by decide) (fun _ _ _ h => h) (Or.inl ⟨by rfl, ?_⟩) (.inr hC11) ?_
    · intro w6 _
      go_simp
    simp only [Act.put, List.setIfInBounds_toArray, List.set_cons_zero, List.set_cons_succ, List.getElem_toArray, List.getElem_cons_zero, List.getElem_cons_succ]
    refine wpAnyK_one (i := 8) (by kernel_rfl) rfl (fun K5 hK5 => ?_)
    go_simp
    refine hK5.out _ _ (.inl (by kernel_rfl)) ?_
    clear hK5 K5
    refine wpAnyK_done (by kernel_rfl) ?_ _
    refine hK _ _ ?_
    obtain ⟨W11, hW11⟩ : ∃ W, w11.setCell ⟨P9, 2, none⟩ (.slice (some ⟨gn11, 0, none⟩) (n2 - at_) cp11) = W := ⟨_, rfl⟩
    have G11 : W10.grownBy W11 (some P9) := hW11 ▸ only_store (only_of_below b11 (Nat.le_refl _)) 2 _
    have Y11 : Has W11 P9 33 #[.int .i64 0, .bool lf2, .slice (some ⟨gn11, 0, none⟩) (n2 - at_) cp11] := hW11 ▸ (by have := (H9a.below b11 H9a.lt).store 2 (.slice (some ⟨gn11, 0, none⟩) (n2 - at_) cp11); simpa using this)
    have hne11 : gn11 ≠ P9 := by have := H9a.lt; have := X11.out; omega
    have R11 : RwF (fun q => q = gn11) W11 (some ⟨gn11, 0, none⟩) (n2 - at_) cp11 4 (flatC (ek.drop at_)) := hW11 ▸ r11.move (fun q hq _ => ⟨hq, Below.heap_setCell _ _ _ q (by subst hq; exact hne11)⟩)
    rw [hW11]
    have X6b : Has W11 P6 33 #[.int .i64 p2, .bool lf2, .slice (some ⟨g2, off2, none⟩) n2 c2] := X6a.grown G11 (by intro e; injection e with e; omega)
    have Y8b : Has W11 P8 33 #[.int .i64 0, .bool lf2, .slice (some ⟨gn10, 0, none⟩) at_ cp10] := Y10.grown G11 (by intro e; injection e with e; omega)
    have hBw11 : Below w.heap.size w W11 := hBw10.trans (below_only G11 (by omega) (by have := hBw10.size; omega))
    have hn10 := X10.out
    have hn11 := X11.out
    have hgs : P9 < gn10 ∧ gn10 < gn11 := by
      have := Y10.lt
      obtain ⟨cur, hcur⟩ := n10
      have h2 : gn10 < W10.heap.size := by
        obtain ⟨gx, ox, hx1, hx2, hx3⟩ := R10.reads (by rw [R10.len]; omega)
        have := World.block_lt_of_cell? W10 _ (hx3 0 _ (List.getElem?_eq_getElem (by rw [R10.len]; omega)))
        subst hx2
        exact this
      omega
    have RA11 : RwF (fun q => q = gn10) W11 (some ⟨gn10, 0, none⟩) at_ cp10 4 (flatC (ek.take at_)) := R10.move (fun q hq hl => ⟨hq, G11.block q hl (fun e => by injection e with e; omega)⟩)
    have X2b : Has W11 P2 33 #[.int .i64 p, .bool lf, .slice (some ⟨g, off, none⟩) n c] := ((HX2.out.below B9.out HX2.out.lt).grown G10 (by intro e; injection e with e; omega)).grown G11 (by intro e; injection e with e; omega)
    have X4b : Has W11 P4 33 #[.int .i64 0, .bool false, .slice none 0 0] := ((HX4.out.below B9.out HX4.out.lt).grown G10 (by intro e; injection e with e; omega)).grown G11 (by intro e; injection e with e; omega)
    have NB : ∃ cur, Has W11 gn11 53 cur := by
      obtain ⟨cur, hcur⟩ := n11
      exact ⟨cur, hW11 ▸ hcur.away (p := ⟨P9, 2, none⟩) (by show gn11 ≠ P9; omega) _⟩
    have hd0 : (ek.drop at_)[0]? = some x := by rw [List.getElem?_drop, Nat.add_zero]; exact hx
    have kx : W11.cell? ⟨gn11, 0, none⟩ = some (.string ⟨x.k.toArray⟩) := by
      obtain ⟨gx, ox, hx1, hx2, hx3, _⟩ := R11.at4 hd0
      injection hx1 with hx1
      injection hx1 with e1 e2 _
      subst e1
      rw [← e2] at hx3
      exact hx3
    have x61 := X6b.cell 1
    have x92b := Y11.cell 2
    have hnn : 0 < n2 - at_ := by omega
    have hkw := h.below hBw11
    have HH := Lib.hid h
    have ORD := Lib.hid hord
    have GS := Lib.hid hgs
    have HBW11 := Lib.hid hBw11
    have XX2 := Lib.hid X2b
    have XX4 := Lib.hid X4b
    have YY8 := Lib.hid Y8b
    have YY9 := Lib.hid Y11
    have RRA := Lib.hid RA11
    have RRB := Lib.hid R11
    have HDX := Lib.hid hd0
    have HX0 := Lib.hid hx
    have HE0 := Lib.hid he
    clear hC8 hC11 hW11 hn10 hn11 hgs X2b X4b Y8b Y10 Y11 RA11 R10 R11 X6a X6b H9a n10 n11 r10 r11 b10 b11 G10 G11 X10 X11 hne10 hne11 x92 x62a x62 x82 f82 f10 f11 hs10 hBw10 hBw11 hBw9 HBW9 HBW10 hord hd0 h hkw he hx hkr hrd2 hk hkc hb HX6 X69H HX8 HX9 HX2 HX4 HB0 HB6 B9 HSZ9 hq1 hPl
    obtain ⟨sx, hsx⟩ : ∃ s : ByteArray, (⟨x.k.toArray⟩ : ByteArray) = s := ⟨_, rfl⟩
    obtain ⟨sk, hsk⟩ : ∃ s : ByteArray, (⟨e.k.toArray⟩ : ByteArray) = s := ⟨_, rfl⟩
    rw [hsx] at kx
    cases lf2
    · have hbl : keyE [] (ek.drop at_) = bl := HBL.out
      obtain ⟨cur, hcur⟩ := NB
      have fr := hcur.free 0
      obtain ⟨W12, hW12⟩ : ∃ W, W11.setCell ⟨gn11, 0, none⟩ (.string ⟨#[]⟩) = W := ⟨_, rfl⟩
      have G12 : W11.grownBy W12 (some gn11) := hW12 ▸ only_store (only_refl W11 gn11) 0 _
      have o12 := ORD.out
      have g12 := GS.out
      have Z2 := XX2.out.grown G12 (by intro e; injection e with e; omega)
      have Z4 := XX4.out.grown G12 (by intro e; injection e with e; omega)
      have Z8 := YY8.out.grown G12 (by intro e; injection e with e; omega)
      have Z9 := YY9.out.grown G12 (by intro e; injection e with e; omega)
      have ZB : Below w.heap.size w W12 := HBW11.out.trans (below_only G12 (by omega) (by have := HBW11.out.size; omega))
      have ZA : RwF (fun q => q = gn10) W12 (some ⟨gn10, 0, none⟩) at_ cp10 4 (flatC (ek.take at_)) := RRA.out.move (fun q hq hl => ⟨hq, G12.block q hl (fun e => by injection e with e; omega)⟩)
      have ZR : RwF (fun q => q = gn11) W12 (some ⟨gn11, 0, none⟩) (n2 - at_) cp11 4 (flatC bl) := by
        rw [← hbl, ← hW12]
        exact first_key RRB.out HDX.out hcur
      have hcb : W11.cell? ⟨gn11, 0, none⟩ = some (.string sx) := kx
      clear G12 o12 g12 hbl hcur
      go_wp2
      try rw [hW12]
      have HXL : Hid (∀ w' : World, W12.grownBy w' (some P4) → w'.cell? ⟨P2, 2, none⟩ = some (.slice (some ⟨g, off, none⟩) n c)) := Lib.hid (fun w' hb => (Z2.grown hb (by intro e; injection e with e; have := ORD.out; omega)).cell 2)
      have HX8 : Hid (∀ w' : World, W12.grownBy w' (some P4) → w'.cell? ⟨P8, 0, none⟩ = some (.int .i64 0) ∧ w'.cell? ⟨P8, 1, none⟩ = some (.bool false) ∧ w'.cell? ⟨P8, 2, none⟩ = some (.slice (some ⟨gn10, 0, none⟩) at_ cp10)) := Lib.hid (fun w' hb => have z := Z8.grown hb (by intro e; injection e with e; have := ORD.out; omega); ⟨z.cell 0, z.cell 1, z.cell 2⟩)
      have HX9 : Hid (∀ w' : World, W12.grownBy w' (some P4) → w'.cell? ⟨P9, 0, none⟩ = some (.int .i64 0) ∧ w'.cell? ⟨P9, 1, none⟩ = some (.bool false) ∧ w'.cell? ⟨P9, 2, none⟩ = some (.slice (some ⟨gn11, 0, none⟩) (n2 - at_) cp11)) := Lib.hid (fun w' hb => have z := Z9.grown hb (by intro e; injection e with e; have := ORD.out; omega); ⟨z.cell 0, z.cell 1, z.cell 2⟩)
      have HKY : Hid (∀ w' : World, W12.grownBy w' (some P4) → w'.cell? ⟨g, off + k * 4, none⟩ = some (.string sk)) := Lib.hid (fun w' hb => by
        obtain ⟨gx, ox, hx1, _, hx3, _⟩ := (HH.out.old.below ZB).at4 HE0.out
        injection hx1 with hx1
        injection hx1 with e1 e2 _
        subst e1 e2
        rw [hsk] at hx3
        have hlt : g < w.heap.size := by
          obtain ⟨gy, oy, hy1, hy2, _⟩ := HH.out.old.at4 HE0.out
          injection hy1 with hy1
          injection hy1 with e1 _ _
          subst e1
          exact hy2.2
        exact (cell_same (p := ⟨g, off + k * 4, none⟩) (hb.block g (Nat.lt_of_lt_of_le hlt ZB.size) (fun e => by injection e with e; have := ORD.out; omega))).trans hx3)
      have HZ4 := Lib.hid Z4
      have HZB := Lib.hid ZB
      have HZA := Lib.hid ZA
      have HZR := Lib.hid ZR
      have hS0 : W12.grownBy W12.drew (some P4) := ⟨rfl, rfl, rfl, Nat.le_refl _, fun _ _ _ => rfl⟩
      have hT0 : Below W12.heap.size W12 W12.drew := (Below.refl _ W12).drew
      clear Z2 Z8 Z9 Z4 ZB ZA ZR
      go_wp2
      first | (rename_i K hK; refine wp_held (fun w' : World => W12.grownBy w' (some P4)) K hmx ?_ (fun _ _ h => h)) | (rename_i K hK hz; refine wp_held (fun w' : World => W12.grownBy w' (some P4)) K hmx ?_ (fun _ _ h => h))
      obtain ⟨Wd, hWd⟩ : ∃ W, W12.drew = W := ⟨_, rfl⟩
      rw [hWd] at hS0 hT0 ⊢
      have hwd : W12.heap.size = Wd.heap.size := by rw [← hWd]; rfl
      have HWD := Lib.hid hwd
      clear hwd hWd
      refine wpAnyH_take (i := 0) (v := .pointer (some ⟨P2, 2, none⟩)) (lit rfl) (by kernel_rfl) (by kernel_rfl) (by kernel_rfl) (fun _ _ _ h => h) (Or.inl ⟨by rfl, ?_⟩) hS0 ?_
      · rintro w6 hb6
        go_simp
      simp only [Act.put, List.setIfInBounds_toArray, List.set_cons_zero, List.set_cons_succ]
      refine wpAnyH_take (i := 1) (v := .slice (some ⟨g, off, none⟩) n c) (lit rfl) (by kernel_rfl) (by kernel_rfl) (by kernel_rfl) (fun _ _ _ h => h) (Or.inl ⟨by rfl, ?_⟩) hS0 ?_
      · rintro w6 hb6
        have y6 := HXL.out w6 hb6
        go_simp
      simp only [Act.put, List.setIfInBounds_toArray, List.set_cons_zero, List.set_cons_succ]
      refine wpAnyH_take (i := 2) (v := .int .i64 (k : Int)) (lit rfl) (by kernel_rfl) (by kernel_rfl) (by kernel_rfl) (fun _ _ _ h => h) (Or.inl ⟨by rfl, ?_⟩) hS0 ?_
      · rintro w6 hb6
        go_simp
      simp only [Act.put, List.setIfInBounds_toArray, List.set_cons_zero, List.set_cons_succ]
      refine wpAnyH_take (i := 3) (v := .pointer (some ⟨P2, 2, none⟩)) (lit rfl) (by kernel_rfl) (by kernel_rfl) (by kernel_rfl) (fun _ _ _ h => h) (Or.inl ⟨by rfl, ?_⟩) hS0 ?_
      · rintro w6 hb6
        go_simp
      simp only [Act.put, List.setIfInBounds_toArray, List.set_cons_zero, List.set_cons_succ]
      refine wpAnyH_take (i := 4) (v := .slice (some ⟨g, off, none⟩) n c) (lit rfl) (by kernel_rfl) (by kernel_rfl) (by kernel_rfl) (fun _ _ _ h => h) (Or.inl ⟨by rfl, ?_⟩) hS0 ?_
      · rintro w6 hb6
        have y6 := HXL.out w6 hb6
        go_simp
      simp only [Act.put, List.setIfInBounds_toArray, List.set_cons_zero, List.set_cons_succ]
      refine wpAnyH_take (i := 5) (v := .int .i64 (k : Int)) (lit rfl) (by kernel_rfl) (by kernel_rfl) (by kernel_rfl) (fun _ _ _ h => h) (Or.inl ⟨by rfl, ?_⟩) hS0 ?_
      · rintro w6 hb6
        go_simp
      simp only [Act.put, List.setIfInBounds_toArray, List.set_cons_zero, List.set_cons_succ]
      refine wpAnyH_take (i := 6) (v := .pointer (some ⟨g, off + k * 4, none⟩)) (lit rfl) (by kernel_rfl) (by kernel_rfl) (by kernel_rfl) (fun _ _ _ h => h) (Or.inl ⟨by rfl, ?_⟩) hS0 ?_
      · rintro w6 hb6
        go_simp
      simp only [Act.put, List.setIfInBounds_toArray, List.set_cons_zero, List.set_cons_succ]
      refine wpAnyH_take (i := 7) (v := .pointer (some ⟨g, off + k * 4, none⟩)) (lit rfl) (by kernel_rfl) (by kernel_rfl) (by kernel_rfl) (fun _ _ _ h => h) (Or.inl ⟨by rfl, ?_⟩) hS0 ?_
      · rintro w6 hb6
        go_simp
      simp only [Act.put, List.setIfInBounds_toArray, List.set_cons_zero, List.set_cons_succ]
      refine wpAnyH_take (i := 8) (v := .string sk) (lit rfl) (by kernel_rfl) (by kernel_rfl) (by kernel_rfl) (fun _ _ _ h => h) (Or.inl ⟨by rfl, ?_⟩) hS0 ?_
      · rintro w6 hb6
        have y6 := HKY.out w6 hb6
        go_simp
      simp only [Act.put, List.setIfInBounds_toArray, List.set_cons_zero, List.set_cons_succ]
      refine wpAnyH_take (i := 9) (v := .agg #[.int .i64 0, .bool false, .slice (some ⟨gn10, 0, none⟩) at_ cp10]) (lit rfl) (by kernel_rfl) (by kernel_rfl) (by kernel_rfl) (fun _ _ _ h => h) (Or.inl ⟨by rfl, ?_⟩) hS0 ?_
      · rintro w6 hb6
        obtain ⟨y60, y61, y62⟩ := HX8.out w6 hb6
        go_simp
      simp only [Act.put, List.setIfInBounds_toArray, List.set_cons_zero, List.set_cons_succ]
      refine wpAnyH_take (i := 12) (v := .string sx) (lit rfl) (by kernel_rfl) (by kernel_rfl) (by kernel_rfl) (fun _ _ _ h => h) (Or.inl ⟨by rfl, ?_⟩) hS0 ?_
      · rintro w6 hb6
        go_simp
      simp only [Act.put, List.setIfInBounds_toArray, List.set_cons_zero, List.set_cons_succ]
      refine wpAnyH_take (i := 13) (v := .agg #[.int .i64 0, .bool false, .slice (some ⟨gn11, 0, none⟩) (n2 - at_) cp11]) (lit rfl) (by kernel_rfl) (by kernel_rfl) (by kernel_rfl) (fun _ _ _ h => h) (Or.inl ⟨by rfl, ?_⟩) hS0 ?_
      · rintro w6 hb6
        obtain ⟨y60, y61, y62⟩ := HX9.out w6 hb6
        go_simp
      simp only [Act.put, List.setIfInBounds_toArray, List.set_cons_zero, List.set_cons_succ]
      refine wpAnyH_ready (rs := [10, 14]) (by kernel_rfl) (by simp) ?_
      refine AllReadyH.cons (lit rfl) (fun K5 hK5 => ?_) (AllReadyH.cons (lit rfl) (fun K5 hK5 => ?_) AllReadyH.nil)
      · refine step_open rfl ?_
        go_simp
        obtain ⟨V1, hV1⟩ : ∃ W, Wd.alloc (.cells #[.int .i64 0, .bool false, .slice (some ⟨gn10, 0, none⟩) at_ cp10] 33) = W := ⟨_, rfl⟩
        have mV1 := RwF.made (fun q => q = Wd.heap.size) Wd 33 (nvL ⟨0, false, some ⟨gn10, 0, none⟩, at_, cp10⟩) 1 3 rfl (by decide) rfl
        have MV1 := Lib.hid (hV1 ▸ mV1 : RwF _ V1 _ _ _ _ _)
        have hT1 : Below W12.heap.size W12 V1 := hV1 ▸ below_alloc' hT0 _
        have hS1 : W12.grownBy V1 (some P4) := only_of_below hT1 (Nat.le_refl _)
        have hsV1 : Wd.heap.size < V1.heap.size := by rw [← hV1]; simp
        try rw [hV1]
        clear mV1
        obtain ⟨GX, hGX⟩ : ∃ G, Wd.heap.size = G := ⟨_, rfl⟩
        try rw [hGX]
        rw [hGX] at MV1 hsV1
        refine hK5.out _ _ hS1 (fun _ => ?_)
        clear hK5 K5
        refine wpAnyH_take (i := 11) (v := .agg #[.string sk, .string ⟨#[]⟩, .slice none 0 0, .slice (some ⟨GX, 0, none⟩) 1 1]) (lit rfl) (by kernel_rfl) (by kernel_rfl) (by kernel_rfl) (fun _ _ _ h => h) (Or.inl ⟨by rfl, ?_⟩) hS1 ?_
        · rintro w6 hb6
          go_simp
        simp only [Act.put, List.setIfInBounds_toArray, List.set_cons_zero, List.set_cons_succ]
        refine wpAnyH_ready (rs := [14]) (by kernel_rfl) (by simp) ?_
        refine AllReadyH.cons (lit rfl) (fun K5 hK5 => ?_) AllReadyH.nil
        refine step_open rfl ?_
        go_simp
        obtain ⟨V2, hV2⟩ : ∃ W, V1.alloc (.cells #[.int .i64 0, .bool false, .slice (some ⟨gn11, 0, none⟩) (n2 - at_) cp11] 33) = W := ⟨_, rfl⟩
        have mV2 := RwF.made (fun q => q = V1.heap.size) V1 33 (nvL ⟨0, false, some ⟨gn11, 0, none⟩, n2 - at_, cp11⟩) 1 3 rfl (by decide) rfl
        have MV2 := Lib.hid (hV2 ▸ mV2 : RwF _ V2 _ _ _ _ _)
        have hT2 : Below W12.heap.size W12 V2 := hV2 ▸ below_alloc' hT1 _
        have hS2 : W12.grownBy V2 (some P4) := only_of_below hT2 (Nat.le_refl _)
        have hsV2 : V1.heap.size < V2.heap.size := by rw [← hV2]; simp
        try rw [hV2]
        clear mV2
        obtain ⟨GY, hGY⟩ : ∃ G, V1.heap.size = G := ⟨_, rfl⟩
        try rw [hGY]
        rw [hGY] at MV2 hsV2 hsV1
        have MV1b := Lib.hid (MV1.out.below (show Below V1.heap.size V1 V2 from hV2 ▸ (Below.refl _ V1).alloc (Nat.le_refl _) _))
        refine hK5.out _ _ hS2 (fun _ => ?_)
        clear hK5 K5
        refine wpAnyH_take (i := 15) (v := .agg #[.string sx, .string ⟨#[]⟩, .slice none 0 0, .slice (some ⟨GY, 0, none⟩) 1 1]) (lit rfl) (by kernel_rfl) (by kernel_rfl) (by kernel_rfl) (fun _ _ _ h => h) (Or.inl ⟨by rfl, ?_⟩) hS2 ?_
        · rintro w6 hb6
          go_simp
        simp only [Act.put, List.setIfInBounds_toArray, List.set_cons_zero, List.set_cons_succ]
        refine wpAnyH_ready (rs := [16]) (by kernel_rfl) (by simp) ?_
        refine AllReadyH.cons (lit rfl) (fun K5 hK5 => ?_) AllReadyH.nil
        refine step_open rfl ?_
        go_simp
        obtain ⟨V3, hV3⟩ : ∃ W, V2.alloc (.cells #[.string sk, .string ⟨#[]⟩, .slice none 0 0, .slice (some ⟨GX, 0, none⟩) 1 1, .string sx, .string ⟨#[]⟩, .slice none 0 0, .slice (some ⟨GY, 0, none⟩) 1 1] 53) = W := ⟨_, rfl⟩
        have m3 := RwF.made (fun q => q = V2.heap.size) V2 53 (flatC [(⟨e.k, [], none, 0, 0, some ⟨GX, 0, none⟩, 1, 1⟩ : CE), ⟨x.k, [], none, 0, 0, some ⟨GY, 0, none⟩, 1, 1⟩]) 2 4 rfl (by decide) rfl
        rw [show (flatC [(⟨e.k, [], none, 0, 0, some ⟨GX, 0, none⟩, 1, 1⟩ : CE), ⟨x.k, [], none, 0, 0, some ⟨GY, 0, none⟩, 1, 1⟩]).toArray = #[.string sk, .string ⟨#[]⟩, .slice none 0 0, .slice (some ⟨GX, 0, none⟩) 1 1, .string sx, .string ⟨#[]⟩, .slice none 0 0, .slice (some ⟨GY, 0, none⟩) 1 1] from by simp [flatC, ceV, hsk, hsx]] at m3
        have M3 := Lib.hid (hV3 ▸ m3 : RwF _ V3 _ _ _ _ _)
        have hT3 : Below W12.heap.size W12 V3 := hV3 ▸ below_alloc' hT2 _
        have hS3 : W12.grownBy V3 (some P4) := only_of_below hT3 (Nat.le_refl _)
        have hb23 : Below V2.heap.size V2 V3 := hV3 ▸ (Below.refl _ V2).alloc (Nat.le_refl _) _
        try rw [hV3]
        clear m3
        refine hK5.out _ _ hS3 (fun _ => ?_)
        clear hK5 K5
        refine wpAnyH_ready (rs := [17]) (by kernel_rfl) (by simp) ?_
        refine AllReadyH.cons (lit rfl) (fun K5 hK5 => ?_) AllReadyH.nil
        refine step_open rfl ?_
        go_simp
        go_at_call 46
        (with_reducible refine (r15with_es F _ es [(⟨e.k, [], none, 0, 0, some ⟨GX, 0, none⟩, 1, 1⟩ : CE), ⟨x.k, [], none, 0, 0, some ⟨GY, 0, none⟩, 1, 1⟩] (some ⟨g, off, none⟩) _ n c 2 2 k V3 (HH.out.below (below_step HZB.out hT3)) M3.out hkn (by omega) (by omega)).mono ?_)
        rintro r17 w17 ⟨A17, c17, rfl, r17, b17⟩
        have hln : (es.take k ++ ([(⟨e.k, [], none, 0, 0, some ⟨GX, 0, none⟩, 1, 1⟩ : CE), ⟨x.k, [], none, 0, 0, some ⟨GY, 0, none⟩, 1, 1⟩] ++ es.drop (k + 1))).length = n + 1 := by rw [List.length_append, List.length_append, List.length_take, List.length_drop, ← HN.out]; simp; omega
        rw [hln] at r17 ⊢
        have hT4 : Below W12.heap.size W12 w17 := below_step hT3 b17
        have hS4 : W12.grownBy w17 (some P4) := only_of_below hT4 (Nat.le_refl _)
        have Z4c := HZ4.out.below hT4 HZ4.out.lt
        have z40 := Z4c.cell 0
        have z41 := Z4c.cell 1
        have z42 := Z4c.cell 2
        have z43 := Z4c.free 0
        have z44 := Z4c.free 1
        have z45 := Z4c.free 2
        refine hK5.out _ _ hS4 (fun _ => ?_)
        clear hK5 K5
        refine wpAnyH_take (i := 18) (v := .agg #[.int .i64 0, .bool false, .slice A17 (n + 1) c17]) (lit rfl) (by kernel_rfl) (by kernel_rfl) (by kernel_rfl) (fun _ _ _ h => h) (Or.inl ⟨by rfl, ?_⟩) hS4 ?_
        · rintro w6 hb6
          go_simp
        simp only [Act.put, List.setIfInBounds_toArray, List.set_cons_zero, List.set_cons_succ]
        refine wpAnyH_ready (rs := [19]) (by kernel_rfl) (by simp) ?_
        refine AllReadyH.cons (lit rfl) (fun K5 hK5 => ?_) AllReadyH.nil
        refine step_open rfl ?_
        go_simp
        have hS5 : W12.grownBy (stN w17 P4 (.int .i64 0) (.bool false) (.slice A17 (n + 1) c17)) (some P4) := only_store (only_store (only_store hS4 0 _) 1 _) 2 _
        unfold stN at hS5
        refine hK5.out _ _ hS5 (fun _ => ?_)
        clear hK5 K5
        refine wpAnyH_take (i := 20) (v := .bool true) (lit rfl) (by kernel_rfl) (by kernel_rfl) (by kernel_rfl) (fun _ _ _ h => h) (Or.inl ⟨by rfl, ?_⟩) hS5 ?_
        · rintro w6 hb6
          go_simp
        simp only [Act.put, List.setIfInBounds_toArray, List.set_cons_zero, List.set_cons_succ]
        refine wpAnyH_done (by kernel_rfl) ?_ _
        refine hK _ _ ?_
        go_wp2
        have XE := Z4c.setN (.int .i64 0) (.bool false) (.slice A17 (n + 1) c17)
        have e0 := XE.cell 0
        have e1 := XE.cell 1
        have e2 := XE.cell 2
        unfold stN at e0 e1 e2
        simp at e0 e1 e2
        have o := ORD.out
        have gs := GS.out
        have hw := HZB.out.size
        have hT4s := hT4.size
        have hwd := HWD.out
        have z4l := HZ4.out.lt
        refine ⟨rfl, .tuple #[.agg #[.int .i64 0, .bool false, .slice A17 (n + 1) c17], .bool true], ?_, ?_, ⟨e.k, [], none, 0, 0, some ⟨GX, 0, none⟩, 1, 1⟩, ⟨x.k, [], none, 0, 0, some ⟨GY, 0, none⟩, 1, 1⟩, A17, c17, x, rfl, HX0.out, ?_, ?_, ?_⟩
        · simp [results, Try.f43, go_sem, e0, e1, e2]
        · exact below_setN (hP2 ▸ below_step HZB.out hT4) (by omega) _ _ _
        · exact r17.move (fun q hq hl => ⟨by have := hT3.size; omega, heap_setN _ _ _ _ _ q (by have := hT3.size; have := HZ4.out.lt; omega)⟩)
        · exact ⟨⟨rfl, rfl, rfl, rfl, rfl⟩, rfl, ⟨0, false, some ⟨gn10, 0, none⟩, at_, cp10⟩, ⟨rfl, rfl⟩, fin_row MV1b.out (below_step hb23 b17) (by have := HZ4.out.lt; omega) (by omega), fin_row (HZA.out.below hT3) b17 (by omega) (by omega)⟩
        · exact ⟨⟨rfl, rfl, rfl, rfl, rfl⟩, rfl, ⟨0, false, some ⟨gn11, 0, none⟩, n2 - at_, cp11⟩, ⟨rfl, rfl⟩, fin_row MV2.out (below_step hb23 b17) (by have := HZ4.out.lt; omega) (by omega), fin_row (HZR.out.below hT3) b17 (by omega) (by omega)⟩
      · refine step_open rfl ?_
        go_simp
        obtain ⟨V1, hV1⟩ : ∃ W, Wd.alloc (.cells #[.int .i64 0, .bool false, .slice (some ⟨gn11, 0, none⟩) (n2 - at_) cp11] 33) = W := ⟨_, rfl⟩
        have mV1 := RwF.made (fun q => q = Wd.heap.size) Wd 33 (nvL ⟨0, false, some ⟨gn11, 0, none⟩, n2 - at_, cp11⟩) 1 3 rfl (by decide) rfl
        have MV1 := Lib.hid (hV1 ▸ mV1 : RwF _ V1 _ _ _ _ _)
        have hT1 : Below W12.heap.size W12 V1 := hV1 ▸ below_alloc' hT0 _
        have hS1 : W12.grownBy V1 (some P4) := only_of_below hT1 (Nat.le_refl _)
        have hsV1 : Wd.heap.size < V1.heap.size := by rw [← hV1]; simp
        try rw [hV1]
        clear mV1
        obtain ⟨GX, hGX⟩ : ∃ G, Wd.heap.size = G := ⟨_, rfl⟩
        try rw [hGX]
        rw [hGX] at MV1 hsV1
        refine hK5.out _ _ hS1 (fun _ => ?_)
        clear hK5 K5
        refine wpAnyH_take (i := 15) (v := .agg #[.string sx, .string ⟨#[]⟩, .slice none 0 0, .slice (some ⟨GX, 0, none⟩) 1 1]) (lit rfl) (by kernel_rfl) (by kernel_rfl) (by kernel_rfl) (fun _ _ _ h => h) (Or.inl ⟨by rfl, ?_⟩) hS1 ?_
        · rintro w6 hb6
          go_simp
        simp only [Act.put, List.setIfInBounds_toArray, List.set_cons_zero, List.set_cons_succ]
        refine wpAnyH_ready (rs := [10]) (by kernel_rfl) (by simp) ?_
        refine AllReadyH.cons (lit rfl) (fun K5 hK5 => ?_) AllReadyH.nil
        refine step_open rfl ?_
        go_simp
        obtain ⟨V2, hV2⟩ : ∃ W, V1.alloc (.cells #[.int .i64 0, .bool false, .slice (some ⟨gn10, 0, none⟩) at_ cp10] 33) = W := ⟨_, rfl⟩
        have mV2 := RwF.made (fun q => q = V1.heap.size) V1 33 (nvL ⟨0, false, some ⟨gn10, 0, none⟩, at_, cp10⟩) 1 3 rfl (by decide) rfl
        have MV2 := Lib.hid (hV2 ▸ mV2 : RwF _ V2 _ _ _ _ _)
        have hT2 : Below W12.heap.size W12 V2 := hV2 ▸ below_alloc' hT1 _
        have hS2 : W12.grownBy V2 (some P4) := only_of_below hT2 (Nat.le_refl _)
        have hsV2 : V1.heap.size < V2.heap.size := by rw [← hV2]; simp
        try rw [hV2]
        clear mV2
        obtain ⟨GY, hGY⟩ : ∃ G, V1.heap.size = G := ⟨_, rfl⟩
        try rw [hGY]
        rw [hGY] at MV2 hsV2 hsV1
        have MV1b := Lib.hid (MV1.out.below (show Below V1.heap.size V1 V2 from hV2 ▸ (Below.refl _ V1).alloc (Nat.le_refl _) _))
        refine hK5.out _ _ hS2 (fun _ => ?_)
        clear hK5 K5
        refine wpAnyH_take (i := 11) (v := .agg #[.string sk, .string ⟨#[]⟩, .slice none 0 0, .slice (some ⟨GY, 0, none⟩) 1 1]) (lit rfl) (by kernel_rfl) (by kernel_rfl) (by kernel_rfl) (fun _ _ _ h => h) (Or.inl ⟨by rfl, ?_⟩) hS2 ?_
        · rintro w6 hb6
          go_simp
        simp only [Act.put, List.setIfInBounds_toArray, List.set_cons_zero, List.set_cons_succ]
        refine wpAnyH_ready (rs := [16]) (by kernel_rfl) (by simp) ?_
        refine AllReadyH.cons (lit rfl) (fun K5 hK5 => ?_) AllReadyH.nil
        refine step_open rfl ?_
        go_simp
        obtain ⟨V3, hV3⟩ : ∃ W, V2.alloc (.cells #[.string sk, .string ⟨#[]⟩, .slice none 0 0, .slice (some ⟨GY, 0, none⟩) 1 1, .string sx, .string ⟨#[]⟩, .slice none 0 0, .slice (some ⟨GX, 0, none⟩) 1 1] 53) = W := ⟨_, rfl⟩
        have m3 := RwF.made (fun q => q = V2.heap.size) V2 53 (flatC [(⟨e.k, [], none, 0, 0, some ⟨GY, 0, none⟩, 1, 1⟩ : CE), ⟨x.k, [], none, 0, 0, some ⟨GX, 0, none⟩, 1, 1⟩]) 2 4 rfl (by decide) rfl
        rw [show (flatC [(⟨e.k, [], none, 0, 0, some ⟨GY, 0, none⟩, 1, 1⟩ : CE), ⟨x.k, [], none, 0, 0, some ⟨GX, 0, none⟩, 1, 1⟩]).toArray = #[.string sk, .string ⟨#[]⟩, .slice none 0 0, .slice (some ⟨GY, 0, none⟩) 1 1, .string sx, .string ⟨#[]⟩, .slice none 0 0, .slice (some ⟨GX, 0, none⟩) 1 1] from by simp [flatC, ceV, hsk, hsx]] at m3
        have M3 := Lib.hid (hV3 ▸ m3 : RwF _ V3 _ _ _ _ _)
        have hT3 : Below W12.heap.size W12 V3 := hV3 ▸ below_alloc' hT2 _
        have hS3 : W12.grownBy V3 (some P4) := only_of_below hT3 (Nat.le_refl _)
        have hb23 : Below V2.heap.size V2 V3 := hV3 ▸ (Below.refl _ V2).alloc (Nat.le_refl _) _
        try rw [hV3]
        clear m3
        refine hK5.out _ _ hS3 (fun _ => ?_)
        clear hK5 K5
        refine wpAnyH_ready (rs := [17]) (by kernel_rfl) (by simp) ?_
        refine AllReadyH.cons (lit rfl) (fun K5 hK5 => ?_) AllReadyH.nil
        refine step_open rfl ?_
        go_simp
        go_at_call 46
        (with_reducible refine (r15with_es F _ es [(⟨e.k, [], none, 0, 0, some ⟨GY, 0, none⟩, 1, 1⟩ : CE), ⟨x.k, [], none, 0, 0, some ⟨GX, 0, none⟩, 1, 1⟩] (some ⟨g, off, none⟩) _ n c 2 2 k V3 (HH.out.below (below_step HZB.out hT3)) M3.out hkn (by omega) (by omega)).mono ?_)
        rintro r17 w17 ⟨A17, c17, rfl, r17, b17⟩
        have hln : (es.take k ++ ([(⟨e.k, [], none, 0, 0, some ⟨GY, 0, none⟩, 1, 1⟩ : CE), ⟨x.k, [], none, 0, 0, some ⟨GX, 0, none⟩, 1, 1⟩] ++ es.drop (k + 1))).length = n + 1 := by rw [List.length_append, List.length_append, List.length_take, List.length_drop, ← HN.out]; simp; omega
        rw [hln] at r17 ⊢
        have hT4 : Below W12.heap.size W12 w17 := below_step hT3 b17
        have hS4 : W12.grownBy w17 (some P4) := only_of_below hT4 (Nat.le_refl _)
        have Z4c := HZ4.out.below hT4 HZ4.out.lt
        have z40 := Z4c.cell 0
        have z41 := Z4c.cell 1
        have z42 := Z4c.cell 2
        have z43 := Z4c.free 0
        have z44 := Z4c.free 1
        have z45 := Z4c.free 2
        refine hK5.out _ _ hS4 (fun _ => ?_)
        clear hK5 K5
        refine wpAnyH_take (i := 18) (v := .agg #[.int .i64 0, .bool false, .slice A17 (n + 1) c17]) (lit rfl) (by kernel_rfl) (by kernel_rfl) (by kernel_rfl) (fun _ _ _ h => h) (Or.inl ⟨by rfl, ?_⟩) hS4 ?_
        · rintro w6 hb6
          go_simp
        simp only [Act.put, List.setIfInBounds_toArray, List.set_cons_zero, List.set_cons_succ]
        refine wpAnyH_ready (rs := [19]) (by kernel_rfl) (by simp) ?_
        refine AllReadyH.cons (lit rfl) (fun K5 hK5 => ?_) AllReadyH.nil
        refine step_open rfl ?_
        go_simp
        have hS5 : W12.grownBy (stN w17 P4 (.int .i64 0) (.bool false) (.slice A17 (n + 1) c17)) (some P4) := only_store (only_store (only_store hS4 0 _) 1 _) 2 _
        unfold stN at hS5
        refine hK5.out _ _ hS5 (fun _ => ?_)
        clear hK5 K5
        refine wpAnyH_take (i := 20) (v := .bool true) (lit rfl) (by kernel_rfl) (by kernel_rfl) (by kernel_rfl) (fun _ _ _ h => h) (Or.inl ⟨by rfl, ?_⟩) hS5 ?_
        · rintro w6 hb6
          go_simp
        simp only [Act.put, List.setIfInBounds_toArray, List.set_cons_zero, List.set_cons_succ]
        refine wpAnyH_done (by kernel_rfl) ?_ _
        refine hK _ _ ?_
        go_wp2
        have XE := Z4c.setN (.int .i64 0) (.bool false) (.slice A17 (n + 1) c17)
        have e0 := XE.cell 0
        have e1 := XE.cell 1
        have e2 := XE.cell 2
        unfold stN at e0 e1 e2
        simp at e0 e1 e2
        have o := ORD.out
        have gs := GS.out
        have hw := HZB.out.size
        have hT4s := hT4.size
        have hwd := HWD.out
        have z4l := HZ4.out.lt
        refine ⟨rfl, .tuple #[.agg #[.int .i64 0, .bool false, .slice A17 (n + 1) c17], .bool true], ?_, ?_, ⟨e.k, [], none, 0, 0, some ⟨GY, 0, none⟩, 1, 1⟩, ⟨x.k, [], none, 0, 0, some ⟨GX, 0, none⟩, 1, 1⟩, A17, c17, x, rfl, HX0.out, ?_, ?_, ?_⟩
        · simp [results, Try.f43, go_sem, e0, e1, e2]
        · exact below_setN (hP2 ▸ below_step HZB.out hT4) (by omega) _ _ _
        · exact r17.move (fun q hq hl => ⟨by have := hT3.size; omega, heap_setN _ _ _ _ _ q (by have := hT3.size; have := HZ4.out.lt; omega)⟩)
        · exact ⟨⟨rfl, rfl, rfl, rfl, rfl⟩, rfl, ⟨0, false, some ⟨gn10, 0, none⟩, at_, cp10⟩, ⟨rfl, rfl⟩, fin_row MV2.out (below_step hb23 b17) (by have := HZ4.out.lt; omega) (by omega), fin_row (HZA.out.below hT3) b17 (by omega) (by omega)⟩
        · exact ⟨⟨rfl, rfl, rfl, rfl, rfl⟩, rfl, ⟨0, false, some ⟨gn11, 0, none⟩, n2 - at_, cp11⟩, ⟨rfl, rfl⟩, fin_row MV1b.out (below_step hb23 b17) (by have := HZ4.out.lt; omega) (by omega), fin_row (HZR.out.below hT3) b17 (by omega) (by omega)⟩
    · have hbl : ek.drop at_ = bl := HBL.out
      obtain ⟨W12, hW12⟩ : ∃ W : World, W = W11 := ⟨_, rfl⟩
      subst hW12
      have Z2 := XX2.out
      have Z4 := XX4.out
      have Z8 := YY8.out
      have Z9 := YY9.out
      have ZB := HBW11.out
      have ZA := RRA.out
      have ZR := RRB.out
      rw [hbl] at ZR
      clear hbl
      go_wp2
      have HXL : Hid (∀ w' : World, W12.grownBy w' (some P4) → w'.cell? ⟨P2, 2, none⟩ = some (.slice (some ⟨g, off, none⟩) n c)) := Lib.hid (fun w' hb => (Z2.grown hb (by intro e; injection e with e; have := ORD.out; omega)).cell 2)
      have HX8 : Hid (∀ w' : World, W12.grownBy w' (some P4) → w'.cell? ⟨P8, 0, none⟩ = some (.int .i64 0) ∧ w'.cell? ⟨P8, 1, none⟩ = some (.bool true) ∧ w'.cell? ⟨P8, 2, none⟩ = some (.slice (some ⟨gn10, 0, none⟩) at_ cp10)) := Lib.hid (fun w' hb => have z := Z8.grown hb (by intro e; injection e with e; have := ORD.out; omega); ⟨z.cell 0, z.cell 1, z.cell 2⟩)
      have HX9 : Hid (∀ w' : World, W12.grownBy w' (some P4) → w'.cell? ⟨P9, 0, none⟩ = some (.int .i64 0) ∧ w'.cell? ⟨P9, 1, none⟩ = some (.bool true) ∧ w'.cell? ⟨P9, 2, none⟩ = some (.slice (some ⟨gn11, 0, none⟩) (n2 - at_) cp11)) := Lib.hid (fun w' hb => have z := Z9.grown hb (by intro e; injection e with e; have := ORD.out; omega); ⟨z.cell 0, z.cell 1, z.cell 2⟩)
      have HKY : Hid (∀ w' : World, W12.grownBy w' (some P4) → w'.cell? ⟨g, off + k * 4, none⟩ = some (.string sk)) := Lib.hid (fun w' hb => by
        obtain ⟨gx, ox, hx1, _, hx3, _⟩ := (HH.out.old.below ZB).at4 HE0.out
        injection hx1 with hx1
        injection hx1 with e1 e2 _
        subst e1 e2
        rw [hsk] at hx3
        have hlt : g < w.heap.size := by
          obtain ⟨gy, oy, hy1, hy2, _⟩ := HH.out.old.at4 HE0.out
          injection hy1 with hy1
          injection hy1 with e1 _ _
          subst e1
          exact hy2.2
        exact (cell_same (p := ⟨g, off + k * 4, none⟩) (hb.block g (Nat.lt_of_lt_of_le hlt ZB.size) (fun e => by injection e with e; have := ORD.out; omega))).trans hx3)
      have HZ4 := Lib.hid Z4
      have HZB := Lib.hid ZB
      have HZA := Lib.hid ZA
      have HZR := Lib.hid ZR
      have hS0 : W12.grownBy W12.drew (some P4) := ⟨rfl, rfl, rfl, Nat.le_refl _, fun _ _ _ => rfl⟩
      have hT0 : Below W12.heap.size W12 W12.drew := (Below.refl _ W12).drew
      clear Z2 Z8 Z9 Z4 ZB ZA ZR
      go_wp2
      first | (rename_i K hK; refine wp_held (fun w' : World => W12.grownBy w' (some P4)) K hmx ?_ (fun _ _ h => h)) | (rename_i K hK hz; refine wp_held (fun w' : World => W12.grownBy w' (some P4)) K hmx ?_ (fun _ _ h => h))
      obtain ⟨Wd, hWd⟩ : ∃ W, W12.drew = W := ⟨_, rfl⟩
      rw [hWd] at hS0 hT0 ⊢
      have hwd : W12.heap.size = Wd.heap.size := by rw [← hWd]; rfl
      have HWD := Lib.hid hwd
      clear hwd hWd
      refine wpAnyH_take (i := 0) (v := .pointer (some ⟨P2, 2, none⟩)) (lit rfl) (by kernel_rfl) (by kernel_rfl) (by kernel_rfl) (fun _ _ _ h => h) (Or.inl ⟨by rfl, ?_⟩) hS0 ?_
      · rintro w6 hb6
        go_simp
      simp only [Act.put, List.setIfInBounds_toArray, List.set_cons_zero, List.set_cons_succ]
      refine wpAnyH_take (i := 1) (v := .slice (some ⟨g, off, none⟩) n c) (lit rfl) (by kernel_rfl) (by kernel_rfl) (by kernel_rfl) (fun _ _ _ h => h) (Or.inl ⟨by rfl, ?_⟩) hS0 ?_
      · rintro w6 hb6
        have y6 := HXL.out w6 hb6
        go_simp
      simp only [Act.put, List.setIfInBounds_toArray, List.set_cons_zero, List.set_cons_succ]
      refine wpAnyH_take (i := 2) (v := .int .i64 (k : Int)) (lit rfl) (by kernel_rfl) (by kernel_rfl) (by kernel_rfl) (fun _ _ _ h => h) (Or.inl ⟨by rfl, ?_⟩) hS0 ?_
      · rintro w6 hb6
        go_simp
      simp only [Act.put, List.setIfInBounds_toArray, List.set_cons_zero, List.set_cons_succ]
      refine wpAnyH_take (i := 3) (v := .pointer (some ⟨P2, 2, none⟩)) (lit rfl) (by kernel_rfl) (by kernel_rfl) (by kernel_rfl) (fun _ _ _ h => h) (Or.inl ⟨by rfl, ?_⟩) hS0 ?_
      · rintro w6 hb6
        go_simp
      simp only [Act.put, List.setIfInBounds_toArray, List.set_cons_zero, List.set_cons_succ]
      refine wpAnyH_take (i := 4) (v := .slice (some ⟨g, off, none⟩) n c) (lit rfl) (by kernel_rfl) (by kernel_rfl) (by kernel_rfl) (fun _ _ _ h => h) (Or.inl ⟨by rfl, ?_⟩) hS0 ?_
      · rintro w6 hb6
        have y6 := HXL.out w6 hb6
        go_simp
      simp only [Act.put, List.setIfInBounds_toArray, List.set_cons_zero, List.set_cons_succ]
      refine wpAnyH_take (i := 5) (v := .int .i64 (k : Int)) (lit rfl) (by kernel_rfl) (by kernel_rfl) (by kernel_rfl) (fun _ _ _ h => h) (Or.inl ⟨by rfl, ?_⟩) hS0 ?_
      · rintro w6 hb6
        go_simp
      simp only [Act.put, List.setIfInBounds_toArray, List.set_cons_zero, List.set_cons_succ]
      refine wpAnyH_take (i := 6) (v := .pointer (some ⟨g, off + k * 4, none⟩)) (lit rfl) (by kernel_rfl) (by kernel_rfl) (by kernel_rfl) (fun _ _ _ h => h) (Or.inl ⟨by rfl, ?_⟩) hS0 ?_
      · rintro w6 hb6
        go_simp
      simp only [Act.put, List.setIfInBounds_toArray, List.set_cons_zero, List.set_cons_succ]
      refine wpAnyH_take (i := 7) (v := .pointer (some ⟨g, off + k * 4, none⟩)) (lit rfl) (by kernel_rfl) (by kernel_rfl) (by kernel_rfl) (fun _ _ _ h => h) (Or.inl ⟨by rfl, ?_⟩) hS0 ?_
      · rintro w6 hb6
        go_simp
      simp only [Act.put, List.setIfInBounds_toArray, List.set_cons_zero, List.set_cons_succ]
      refine wpAnyH_take (i := 8) (v := .string sk) (lit rfl) (by kernel_rfl) (by kernel_rfl) (by kernel_rfl) (fun _ _ _ h => h) (Or.inl ⟨by rfl, ?_⟩) hS0 ?_
      · rintro w6 hb6
        have y6 := HKY.out w6 hb6
        go_simp
      simp only [Act.put, List.setIfInBounds_toArray, List.set_cons_zero, List.set_cons_succ]
      refine wpAnyH_take (i := 9) (v := .agg #[.int .i64 0, .bool true, .slice (some ⟨gn10, 0, none⟩) at_ cp10]) (lit rfl) (by kernel_rfl) (by kernel_rfl) (by kernel_rfl) (fun _ _ _ h => h) (Or.inl ⟨by rfl, ?_⟩) hS0 ?_
      · rintro w6 hb6
        obtain ⟨y60, y61, y62⟩ := HX8.out w6 hb6
        go_simp
      simp only [Act.put, List.setIfInBounds_toArray, List.set_cons_zero, List.set_cons_succ]
      refine wpAnyH_take (i := 12) (v := .string sx) (lit rfl) (by kernel_rfl) (by kernel_rfl) (by kernel_rfl) (fun _ _ _ h => h) (Or.inl ⟨by rfl, ?_⟩) hS0 ?_
      · rintro w6 hb6
        go_simp
      simp only [Act.put, List.setIfInBounds_toArray, List.set_cons_zero, List.set_cons_succ]
      refine wpAnyH_take (i := 13) (v := .agg #[.int .i64 0, .bool true, .slice (some ⟨gn11, 0, none⟩) (n2 - at_) cp11]) (lit rfl) (by kernel_rfl) (by kernel_rfl) (by kernel_rfl) (fun _ _ _ h => h) (Or.inl ⟨by rfl, ?_⟩) hS0 ?_
      · rintro w6 hb6
        obtain ⟨y60, y61, y62⟩ := HX9.out w6 hb6
        go_simp
      simp only [Act.put, List.setIfInBounds_toArray, List.set_cons_zero, List.set_cons_succ]
      refine wpAnyH_ready (rs := [10, 14]) (by kernel_rfl) (by simp) ?_
      refine AllReadyH.cons (lit rfl) (fun K5 hK5 => ?_) (AllReadyH.cons (lit rfl) (fun K5 hK5 => ?_) AllReadyH.nil)
      · refine step_open rfl ?_
        go_simp
        obtain ⟨V1, hV1⟩ : ∃ W, Wd.alloc (.cells #[.int .i64 0, .bool true, .slice (some ⟨gn10, 0, none⟩) at_ cp10] 33) = W := ⟨_, rfl⟩
        have mV1 := RwF.made (fun q => q = Wd.heap.size) Wd 33 (nvL ⟨0, true, some ⟨gn10, 0, none⟩, at_, cp10⟩) 1 3 rfl (by decide) rfl
        have MV1 := Lib.hid (hV1 ▸ mV1 : RwF _ V1 _ _ _ _ _)
        have hT1 : Below W12.heap.size W12 V1 := hV1 ▸ below_alloc' hT0 _
        have hS1 : W12.grownBy V1 (some P4) := only_of_below hT1 (Nat.le_refl _)
        have hsV1 : Wd.heap.size < V1.heap.size := by rw [← hV1]; simp
        try rw [hV1]
        clear mV1
        obtain ⟨GX, hGX⟩ : ∃ G, Wd.heap.size = G := ⟨_, rfl⟩
        try rw [hGX]
        rw [hGX] at MV1 hsV1
        refine hK5.out _ _ hS1 (fun _ => ?_)
        clear hK5 K5
        refine wpAnyH_take (i := 11) (v := .agg #[.string sk, .string ⟨#[]⟩, .slice none 0 0, .slice (some ⟨GX, 0, none⟩) 1 1]) (lit rfl) (by kernel_rfl) (by kernel_rfl) (by kernel_rfl) (fun _ _ _ h => h) (Or.inl ⟨by rfl, ?_⟩) hS1 ?_
        · rintro w6 hb6
          go_simp
        simp only [Act.put, List.setIfInBounds_toArray, List.set_cons_zero, List.set_cons_succ]
        refine wpAnyH_ready (rs := [14]) (by kernel_rfl) (by simp) ?_
        refine AllReadyH.cons (lit rfl) (fun K5 hK5 => ?_) AllReadyH.nil
        refine step_open rfl ?_
        go_simp
        obtain ⟨V2, hV2⟩ : ∃ W, V1.alloc (.cells #[.int .i64 0, .bool true, .slice (some ⟨gn11, 0, none⟩) (n2 - at_) cp11] 33) = W := ⟨_, rfl⟩
        have mV2 := RwF.made (fun q => q = V1.heap.size) V1 33 (nvL ⟨0, true, some ⟨gn11, 0, none⟩, n2 - at_, cp11⟩) 1 3 rfl (by decide) rfl
        have MV2 := Lib.hid (hV2 ▸ mV2 : RwF _ V2 _ _ _ _ _)
        have hT2 : Below W12.heap.size W12 V2 := hV2 ▸ below_alloc' hT1 _
        have hS2 : W12.grownBy V2 (some P4) := only_of_below hT2 (Nat.le_refl _)
        have hsV2 : V1.heap.size < V2.heap.size := by rw [← hV2]; simp
        try rw [hV2]
        clear mV2
        obtain ⟨GY, hGY⟩ : ∃ G, V1.heap.size = G := ⟨_, rfl⟩
        try rw [hGY]
        rw [hGY] at MV2 hsV2 hsV1
        have MV1b := Lib.hid (MV1.out.below (show Below V1.heap.size V1 V2 from hV2 ▸ (Below.refl _ V1).alloc (Nat.le_refl _) _))
        refine hK5.out _ _ hS2 (fun _ => ?_)
        clear hK5 K5
        refine wpAnyH_take (i := 15) (v := .agg #[.string sx, .string ⟨#[]⟩, .slice none 0 0, .slice (some ⟨GY, 0, none⟩) 1 1]) (lit rfl) (by kernel_rfl) (by kernel_rfl) (by kernel_rfl) (fun _ _ _ h => h) (Or.inl ⟨by rfl, ?_⟩) hS2 ?_
        · rintro w6 hb6
          go_simp
        simp only [Act.put, List.setIfInBounds_toArray, List.set_cons_zero, List.set_cons_succ]
        refine wpAnyH_ready (rs := [16]) (by kernel_rfl) (by simp) ?_
        refine AllReadyH.cons (lit rfl) (fun K5 hK5 => ?_) AllReadyH.nil
        refine step_open rfl ?_
        go_simp
        obtain ⟨V3, hV3⟩ : ∃ W, V2.alloc (.cells #[.string sk, .string ⟨#[]⟩, .slice none 0 0, .slice (some ⟨GX, 0, none⟩) 1 1, .string sx, .string ⟨#[]⟩, .slice none 0 0, .slice (some ⟨GY, 0, none⟩) 1 1] 53) = W := ⟨_, rfl⟩
        have m3 := RwF.made (fun q => q = V2.heap.size) V2 53 (flatC [(⟨e.k, [], none, 0, 0, some ⟨GX, 0, none⟩, 1, 1⟩ : CE), ⟨x.k, [], none, 0, 0, some ⟨GY, 0, none⟩, 1, 1⟩]) 2 4 rfl (by decide) rfl
        rw [show (flatC [(⟨e.k, [], none, 0, 0, some ⟨GX, 0, none⟩, 1, 1⟩ : CE), ⟨x.k, [], none, 0, 0, some ⟨GY, 0, none⟩, 1, 1⟩]).toArray = #[.string sk, .string ⟨#[]⟩, .slice none 0 0, .slice (some ⟨GX, 0, none⟩) 1 1, .string sx, .string ⟨#[]⟩, .slice none 0 0, .slice (some ⟨GY, 0, none⟩) 1 1] from by simp [flatC, ceV, hsk, hsx]] at m3
        have M3 := Lib.hid (hV3 ▸ m3 : RwF _ V3 _ _ _ _ _)
        have hT3 : Below W12.heap.size W12 V3 := hV3 ▸ below_alloc' hT2 _
        have hS3 : W12.grownBy V3 (some P4) := only_of_below hT3 (Nat.le_refl _)
        have hb23 : Below V2.heap.size V2 V3 := hV3 ▸ (Below.refl _ V2).alloc (Nat.le_refl _) _
        try rw [hV3]
        clear m3
        refine hK5.out _ _ hS3 (fun _ => ?_)
        clear hK5 K5
        refine wpAnyH_ready (rs := [17]) (by kernel_rfl) (by simp) ?_
        refine AllReadyH.cons (lit rfl) (fun K5 hK5 => ?_) AllReadyH.nil
        refine step_open rfl ?_
        go_simp
        go_at_call 46
        (with_reducible refine (r15with_es F _ es [(⟨e.k, [], none, 0, 0, some ⟨GX, 0, none⟩, 1, 1⟩ : CE), ⟨x.k, [], none, 0, 0, some ⟨GY, 0, none⟩, 1, 1⟩] (some ⟨g, off, none⟩) _ n c 2 2 k V3 (HH.out.below (below_step HZB.out hT3)) M3.out hkn (by omega) (by omega)).mono ?_)
        rintro r17 w17 ⟨A17, c17, rfl, r17, b17⟩
        have hln : (es.take k ++ ([(⟨e.k, [], none, 0, 0, some ⟨GX, 0, none⟩, 1, 1⟩ : CE), ⟨x.k, [], none, 0, 0, some ⟨GY, 0, none⟩, 1, 1⟩] ++ es.drop (k + 1))).length = n + 1 := by rw [List.length_append, List.length_append, List.length_take, List.length_drop, ← HN.out]; simp; omega
        rw [hln] at r17 ⊢
        have hT4 : Below W12.heap.size W12 w17 := below_step hT3 b17
        have hS4 : W12.grownBy w17 (some P4) := only_of_below hT4 (Nat.le_refl _)
        have Z4c := HZ4.out.below hT4 HZ4.out.lt
        have z40 := Z4c.cell 0
        have z41 := Z4c.cell 1
        have z42 := Z4c.cell 2
        have z43 := Z4c.free 0
        have z44 := Z4c.free 1
        have z45 := Z4c.free 2
        refine hK5.out _ _ hS4 (fun _ => ?_)
        clear hK5 K5
        refine wpAnyH_take (i := 18) (v := .agg #[.int .i64 0, .bool false, .slice A17 (n + 1) c17]) (lit rfl) (by kernel_rfl) (by kernel_rfl) (by kernel_rfl) (fun _ _ _ h => h) (Or.inl ⟨by rfl, ?_⟩) hS4 ?_
        · rintro w6 hb6
          go_simp
        simp only [Act.put, List.setIfInBounds_toArray, List.set_cons_zero, List.set_cons_succ]
        refine wpAnyH_ready (rs := [19]) (by kernel_rfl) (by simp) ?_
        refine AllReadyH.cons (lit rfl) (fun K5 hK5 => ?_) AllReadyH.nil
        refine step_open rfl ?_
        go_simp
        have hS5 : W12.grownBy (stN w17 P4 (.int .i64 0) (.bool false) (.slice A17 (n + 1) c17)) (some P4) := only_store (only_store (only_store hS4 0 _) 1 _) 2 _
        unfold stN at hS5
        refine hK5.out _ _ hS5 (fun _ => ?_)
        clear hK5 K5
        refine wpAnyH_take (i := 20) (v := .bool true) (lit rfl) (by kernel_rfl) (by kernel_rfl) (by kernel_rfl) (fun _ _ _ h => h) (Or.inl ⟨by rfl, ?_⟩) hS5 ?_
        · rintro w6 hb6
          go_simp
        simp only [Act.put, List.setIfInBounds_toArray, List.set_cons_zero, List.set_cons_succ]
        refine wpAnyH_done (by kernel_rfl) ?_ _
        refine hK _ _ ?_
        go_wp2
        have XE := Z4c.setN (.int .i64 0) (.bool false) (.slice A17 (n + 1) c17)
        have e0 := XE.cell 0
        have e1 := XE.cell 1
        have e2 := XE.cell 2
        unfold stN at e0 e1 e2
        simp at e0 e1 e2
        have o := ORD.out
        have gs := GS.out
        have hw := HZB.out.size
        have hT4s := hT4.size
        have hwd := HWD.out
        have z4l := HZ4.out.lt
        refine ⟨rfl, .tuple #[.agg #[.int .i64 0, .bool false, .slice A17 (n + 1) c17], .bool true], ?_, ?_, ⟨e.k, [], none, 0, 0, some ⟨GX, 0, none⟩, 1, 1⟩, ⟨x.k, [], none, 0, 0, some ⟨GY, 0, none⟩, 1, 1⟩, A17, c17, x, rfl, HX0.out, ?_, ?_, ?_⟩
        · simp [results, Try.f43, go_sem, e0, e1, e2]
        · exact below_setN (hP2 ▸ below_step HZB.out hT4) (by omega) _ _ _
        · exact r17.move (fun q hq hl => ⟨by have := hT3.size; omega, heap_setN _ _ _ _ _ q (by have := hT3.size; have := HZ4.out.lt; omega)⟩)
        · exact ⟨⟨rfl, rfl, rfl, rfl, rfl⟩, rfl, ⟨0, true, some ⟨gn10, 0, none⟩, at_, cp10⟩, ⟨rfl, rfl⟩, fin_row MV1b.out (below_step hb23 b17) (by have := HZ4.out.lt; omega) (by omega), fin_row (HZA.out.below hT3) b17 (by omega) (by omega)⟩
        · exact ⟨⟨rfl, rfl, rfl, rfl, rfl⟩, rfl, ⟨0, true, some ⟨gn11, 0, none⟩, n2 - at_, cp11⟩, ⟨rfl, rfl⟩, fin_row MV2.out (below_step hb23 b17) (by have := HZ4.out.lt; omega) (by omega), fin_row (HZR.out.below hT3) b17 (by omega) (by omega)⟩
      · refine step_open rfl ?_
        go_simp
        obtain ⟨V1, hV1⟩ : ∃ W, Wd.alloc (.cells #[.int .i64 0, .bool true, .slice (some ⟨gn11, 0, none⟩) (n2 - at_) cp11] 33) = W := ⟨_, rfl⟩
        have mV1 := RwF.made (fun q => q = Wd.heap.size) Wd 33 (nvL ⟨0, true, some ⟨gn11, 0, none⟩, n2 - at_, cp11⟩) 1 3 rfl (by decide) rfl
        have MV1 := Lib.hid (hV1 ▸ mV1 : RwF _ V1 _ _ _ _ _)
        have hT1 : Below W12.heap.size W12 V1 := hV1 ▸ below_alloc' hT0 _
        have hS1 : W12.grownBy V1 (some P4) := only_of_below hT1 (Nat.le_refl _)
        have hsV1 : Wd.heap.size < V1.heap.size := by rw [← hV1]; simp
        try rw [hV1]
        clear mV1
        obtain ⟨GX, hGX⟩ : ∃ G, Wd.heap.size = G := ⟨_, rfl⟩
        try rw [hGX]
        rw [hGX] at MV1 hsV1
        refine hK5.out _ _ hS1 (fun _ => ?_)
        clear hK5 K5
        refine wpAnyH_take (i := 15) (v := .agg #[.string sx, .string ⟨#[]⟩, .slice none 0 0, .slice (some ⟨GX, 0, none⟩) 1 1]) (lit rfl) (by kernel_rfl) (by kernel_rfl) (by kernel_rfl) (fun _ _ _ h => h) (Or.inl ⟨by rfl, ?_⟩) hS1 ?_
        · rintro w6 hb6
          go_simp
        simp only [Act.put, List.setIfInBounds_toArray, List.set_cons_zero, List.set_cons_succ]
        refine wpAnyH_ready (rs := [10]) (by kernel_rfl) (by simp) ?_
        refine AllReadyH.cons (lit rfl) (fun K5 hK5 => ?_) AllReadyH.nil
        refine step_open rfl ?_
        go_simp
        obtain ⟨V2, hV2⟩ : ∃ W, V1.alloc (.cells #[.int .i64 0, .bool true, .slice (some ⟨gn10, 0, none⟩) at_ cp10] 33) = W := ⟨_, rfl⟩
        have mV2 := RwF.made (fun q => q = V1.heap.size) V1 33 (nvL ⟨0, true, some ⟨gn10, 0, none⟩, at_, cp10⟩) 1 3 rfl (by decide) rfl
        have MV2 := Lib.hid (hV2 ▸ mV2 : RwF _ V2 _ _ _ _ _)
        have hT2 : Below W12.heap.size W12 V2 := hV2 ▸ below_alloc' hT1 _
        have hS2 : W12.grownBy V2 (some P4) := only_of_below hT2 (Nat.le_refl _)
        have hsV2 : V1.heap.size < V2.heap.size := by rw [← hV2]; simp
        try rw [hV2]
        clear mV2
        obtain ⟨GY, hGY⟩ : ∃ G, V1.heap.size = G := ⟨_, rfl⟩
        try rw [hGY]
        rw [hGY] at MV2 hsV2 hsV1
        have MV1b := Lib.hid (MV1.out.below (show Below V1.heap.size V1 V2 from hV2 ▸ (Below.refl _ V1).alloc (Nat.le_refl _) _))
        refine hK5.out _ _ hS2 (fun _ => ?_)
        clear hK5 K5
        refine wpAnyH_take (i := 11) (v := .agg #[.string sk, .string ⟨#[]⟩, .slice none 0 0, .slice (some ⟨GY, 0, none⟩) 1 1]) (lit rfl) (by kernel_rfl) (by kernel_rfl) (by kernel_rfl) (fun _ _ _ h => h) (Or.inl ⟨by rfl, ?_⟩) hS2 ?_
        · rintro w6 hb6
          go_simp
        simp only [Act.put, List.setIfInBounds_toArray, List.set_cons_zero, List.set_cons_succ]
        refine wpAnyH_ready (rs := [16]) (by kernel_rfl) (by simp) ?_
        refine AllReadyH.cons (lit rfl) (fun K5 hK5 => ?_) AllReadyH.nil
        refine step_open rfl ?_
        go_simp
        obtain ⟨V3, hV3⟩ : ∃ W, V2.alloc (.cells #[.string sk, .string ⟨#[]⟩, .slice none 0 0, .slice (some ⟨GY, 0, none⟩) 1 1, .string sx, .string ⟨#[]⟩, .slice none 0 0, .slice (some ⟨GX, 0, none⟩) 1 1] 53) = W := ⟨_, rfl⟩
        have m3 := RwF.made (fun q => q = V2.heap.size) V2 53 (flatC [(⟨e.k, [], none, 0, 0, some ⟨GY, 0, none⟩, 1, 1⟩ : CE), ⟨x.k, [], none, 0, 0, some ⟨GX, 0, none⟩, 1, 1⟩]) 2 4 rfl (by decide) rfl
        rw [show (flatC [(⟨e.k, [], none, 0, 0, some ⟨GY, 0, none⟩, 1, 1⟩ : CE), ⟨x.k, [], none, 0, 0, some ⟨GX, 0, none⟩, 1, 1⟩]).toArray = #[.string sk, .string ⟨#[]⟩, .slice none 0 0, .slice (some ⟨GY, 0, none⟩) 1 1, .string sx, .string ⟨#[]⟩, .slice none 0 0, .slice (some ⟨GX, 0, none⟩) 1 1] from by simp [flatC, ceV, hsk, hsx]] at m3
        have M3 := Lib.hid (hV3 ▸ m3 : RwF _ V3 _ _ _ _ _)
        have hT3 : Below W12.heap.size W12 V3 := hV3 ▸ below_alloc' hT2 _
        have hS3 : W12.grownBy V3 (some P4) := only_of_below hT3 (Nat.le_refl _)
        have hb23 : Below V2.heap.size V2 V3 := hV3 ▸ (Below.refl _ V2).alloc (Nat.le_refl _) _
        try rw [hV3]
        clear m3
        refine hK5.out _ _ hS3 (fun _ => ?_)
        clear hK5 K5
        refine wpAnyH_ready (rs := [17]) (by kernel_rfl) (by simp) ?_
        refine AllReadyH.cons (lit rfl) (fun K5 hK5 => ?_) AllReadyH.nil
        refine step_open rfl ?_
        go_simp
        go_at_call 46
        (with_reducible refine (r15with_es F _ es [(⟨e.k, [], none, 0, 0, some ⟨GY, 0, none⟩, 1, 1⟩ : CE), ⟨x.k, [], none, 0, 0, some ⟨GX, 0, none⟩, 1, 1⟩] (some ⟨g, off, none⟩) _ n c 2 2 k V3 (HH.out.below (below_step HZB.out hT3)) M3.out hkn (by omega) (by omega)).mono ?_)
        rintro r17 w17 ⟨A17, c17, rfl, r17, b17⟩
        have hln : (es.take k ++ ([(⟨e.k, [], none, 0, 0, some ⟨GY, 0, none⟩, 1, 1⟩ : CE), ⟨x.k, [], none, 0, 0, some ⟨GX, 0, none⟩, 1, 1⟩] ++ es.drop (k + 1))).length = n + 1 := by rw [List.length_append, List.length_append, List.length_take, List.length_drop, ← HN.out]; simp; omega
        rw [hln] at r17 ⊢
        have hT4 : Below W12.heap.size W12 w17 := below_step hT3 b17
        have hS4 : W12.grownBy w17 (some P4) := only_of_below hT4 (Nat.le_refl _)
        have Z4c := HZ4.out.below hT4 HZ4.out.lt
        have z40 := Z4c.cell 0
        have z41 := Z4c.cell 1
        have z42 := Z4c.cell 2
        have z43 := Z4c.free 0
        have z44 := Z4c.free 1
        have z45 := Z4c.free 2
        refine hK5.out _ _ hS4 (fun _ => ?_)
        clear hK5 K5
        refine wpAnyH_take (i := 18) (v := .agg #[.int .i64 0, .bool false, .slice A17 (n + 1) c17]) (lit rfl) (by kernel_rfl) (by kernel_rfl) (by kernel_rfl) (fun _ _ _ h => h) (Or.inl ⟨by rfl, ?_⟩) hS4 ?_
        · rintro w6 hb6
          go_simp
        simp only [Act.put, List.setIfInBounds_toArray, List.set_cons_zero, List.set_cons_succ]
        refine wpAnyH_ready (rs := [19]) (by kernel_rfl) (by simp) ?_
        refine AllReadyH.cons (lit rfl) (fun K5 hK5 => ?_) AllReadyH.nil
        refine step_open rfl ?_
        go_simp
        have hS5 : W12.grownBy (stN w17 P4 (.int .i64 0) (.bool false) (.slice A17 (n + 1) c17)) (some P4) := only_store (only_store (only_store hS4 0 _) 1 _) 2 _
        unfold stN at hS5
        refine hK5.out _ _ hS5 (fun _ => ?_)
        clear hK5 K5
        refine wpAnyH_take (i := 20) (v := .bool true) (lit rfl) (by kernel_rfl) (by kernel_rfl) (by kernel_rfl) (fun _ _ _ h => h) (Or.inl ⟨by rfl, ?_⟩) hS5 ?_
        · rintro w6 hb6
          go_simp
        simp only [Act.put, List.setIfInBounds_toArray, List.set_cons_zero, List.set_cons_succ]
        refine wpAnyH_done (by kernel_rfl) ?_ _
        refine hK _ _ ?_
        go_wp2
        have XE := Z4c.setN (.int .i64 0) (.bool false) (.slice A17 (n + 1) c17)
        have e0 := XE.cell 0
        have e1 := XE.cell 1
        have e2 := XE.cell 2
        unfold stN at e0 e1 e2
        simp at e0 e1 e2
        have o := ORD.out
        have gs := GS.out
        have hw := HZB.out.size
        have hT4s := hT4.size
        have hwd := HWD.out
        have z4l := HZ4.out.lt
        refine ⟨rfl, .tuple #[.agg #[.int .i64 0, .bool false, .slice A17 (n + 1) c17], .bool true], ?_, ?_, ⟨e.k, [], none, 0, 0, some ⟨GY, 0, none⟩, 1, 1⟩, ⟨x.k, [], none, 0, 0, some ⟨GX, 0, none⟩, 1, 1⟩, A17, c17, x, rfl, HX0.out, ?_, ?_, ?_⟩
        · simp [results, Try.f43, go_sem, e0, e1, e2]
        · exact below_setN (hP2 ▸ below_step HZB.out hT4) (by omega) _ _ _
        · exact r17.move (fun q hq hl => ⟨by have := hT3.size; omega, heap_setN _ _ _ _ _ q (by have := hT3.size; have := HZ4.out.lt; omega)⟩)
        · exact ⟨⟨rfl, rfl, rfl, rfl, rfl⟩, rfl, ⟨0, true, some ⟨gn10, 0, none⟩, at_, cp10⟩, ⟨rfl, rfl⟩, fin_row MV2.out (below_step hb23 b17) (by have := HZ4.out.lt; omega) (by omega), fin_row (HZA.out.below hT3) b17 (by omega) (by omega)⟩
        · exact ⟨⟨rfl, rfl, rfl, rfl, rfl⟩, rfl, ⟨0, true, some ⟨gn11, 0, none⟩, n2 - at_, cp11⟩, ⟨rfl, rfl⟩, fin_row MV1b.out (below_step hb23 b17) (by have := HZ4.out.lt; omega) (by omega), fin_row (HZR.out.below hT3) b17 (by omega) (by omega)⟩
end Go.Proofs.Ytclaiigelgbpdaa
