import Derived.Test.YtglkmpglpddfdaaGreatDoorJ29
import Derived.Test.YtglkmpglpddfdaaGreatDoorJPap
import Derived.Recover
import Derived.Defers
/- Of a claim's texts, joined: Cprt Cpp. No statement but in the last. -/
section
namespace Go.Proofs.YtglkmpglpddfdaaGreatDoor
open Go.RowKit
set_option linter.unusedVariables false

def parseR : List (List UInt8) → Nat → Cf → Cf × Option (Nat × Nat)
  | [], _, c => (c, none)
  | x :: r, at_, c =>
    if (wordsN x).1 = [] then parseR r (at_ + 1) c
    else match lineO c (wordsN x).1 (wordsN x).2 with
      | some p => (c, some (at_, p))
      | none => parseR r (at_ + 1) (doRaw c (wordsN x).1)
theorem lineO_pos {c : Cf} {l : List Wd} {en p : Nat} (hl : l ≠ []) (h1 : ∀ x ∈ l, 1 ≤ x.2) (h2 : 1 ≤ en) (h : lineO c l en = some p) : 0 < p := by
  have hw : ∀ i, i < l.length → 0 < (wAt l i).2 := fun i hi => by rw [wAt_at l i hi]; exact h1 _ (List.getElem_mem hi)
  have hl0 : 0 < l.length := List.length_pos_iff.2 hl
  unfold lineO at h
  split at h
  · injection h with h; rw [← h]; exact hw 0 hl0
  · cases hb : badFrom c l en 1 (manyN (wAt l 0).1 - 1) with
    | some q =>
      rw [hb] at h
      injection h with h
      subst h
      obtain ⟨j, hj⟩ := badFrom_is hb
      unfold badAt at hj
      split at hj
      · injection hj with hj; omega
      · rename_i hlt
        split at hj
        · split at hj
          · injection hj with hj; rw [← hj]; exact hw j (by omega)
          · cases hj
        · split at hj
          · injection hj with hj; rw [← hj]; exact hw j (by omega)
          · cases hj
    | none =>
      rw [hb] at h
      simp only at h
      split at h
      · rename_i hlt
        injection h with h; rw [← h]; exact hw _ hlt
      · cases h
theorem parse_rel (ls : List (List UInt8)) : ∀ (a m : Nat) (c d : Cf), Okf c m → Rel c d → (parseL ls a d).2 = (parseR ls a c).2 ∧ ((parseR ls a c).2 = none → Rel (parseR ls a c).1 (parseL ls a d).1 ∧ Okf (parseR ls a c).1 (m + ls.length)) := by
  induction ls with
  | nil => intro a m c d ho hd; exact ⟨rfl, fun _ => ⟨hd, ho⟩⟩
  | cons x r ih =>
    intro a m c d ho hd
    unfold parseL parseR
    by_cases hx : (wordsN x).1 = []
    · rw [if_pos hx, if_pos hx]
      obtain ⟨h1, h2⟩ := ih (a + 1) (m + 1) c d ⟨ho.ups, ho.quo, ho.most, ho.big, by have := ho.few; omega⟩ hd
      refine ⟨h1, fun h => ?_⟩
      have := h2 h
      rw [List.length_cons, show m + (r.length + 1) = m + 1 + r.length by omega]
      exact this
    · rw [if_neg hx, if_neg hx]
      obtain ⟨w1, w2, w3⟩ := wordsN_at x
      have hO := lineO_names hd.n (wordsN x).1 (wordsN x).2
      rw [lineN_O, hO]
      cases hc : lineO c (wordsN x).1 (wordsN x).2 with
      | some p =>
        have hp := lineO_pos hx (fun y hy => (w1 y hy).1) w2 hc
        simp only [hp, if_true]
        exact ⟨by first | rfl | trivial, fun h => absurd h (by simp)⟩
      | none =>
        obtain ⟨r1, r2⟩ := raw_rel ho hd hc
        simp only [Nat.lt_irrefl, if_false]
        obtain ⟨h1, h2⟩ := ih (a + 1) (m + 1) (doRaw c (wordsN x).1) (doLine d (wordsN x).1) r1 r2
        refine ⟨h1, fun h => ?_⟩
        have := h2 h
        rw [List.length_cons, show m + (r.length + 1) = m + 1 + r.length by omega]
        exact this
theorem lines_cut (L : List UInt8) : linesN L = (cutAt 10 L).1 :: (if (cutAt 10 L).2.2 = true then linesN (cutAt 10 L).2.1 else []) := by
  induction L with
  | nil => rfl
  | cons b t ih =>
    have e1 : linesN (b :: t) = if b = 10 then [] :: linesN t else match linesN t with
      | [] => [[b]]
      | x :: r => (b :: x) :: r := by
      rw [linesN]
      split
      · rfl
      · cases linesN t <;> rfl
    by_cases hb : b = 10
    · have e2 : cutAt 10 (b :: t) = ([], t, true) := by simp [cutAt, hb]
      rw [e1, e2, if_pos hb]
      rfl
    · have e2 : cutAt 10 (b :: t) = (b :: (cutAt 10 t).1, (cutAt 10 t).2.1, (cutAt 10 t).2.2) := by simp [cutAt, hb]
      rw [e1, e2, if_neg hb, ih]
theorem cutAt_room (L : List UInt8) : (cutAt 10 L).2.2 = true → (cutAt 10 L).2.1.length < L.length := by
  induction L with
  | nil => intro h; cases h
  | cons b t ih =>
    intro h
    unfold cutAt at h ⊢
    by_cases hb : b = 10
    · simp [hb]
    · rw [if_neg hb] at h ⊢
      have := ih h
      simp only [List.length_cons]
      omega
theorem argE_own {w : World} {B n c : Nat} {A : Option Addr} {l : List We} (h : w.ownsRow B 119 3 (.slice A n c) n (cellsE l)) (hn : n = l.length) : ArgE w A n c l := by
  rcases h.2 with ⟨hv, h0⟩ | ⟨g, cap, cur, hv, hB, hg, h1, h2, _, hcur⟩
  · injection hv with hA hn' hc
    have : l = [] := List.eq_nil_of_length_eq_zero (by omega)
    subst this
    exact ⟨hn, Row.empty, by omega, by rw [hc]; exact Nat.zero_le _⟩
  · injection hv with hA hn' hc
    subst hA hc
    refine ⟨hn, fun _ => ⟨g, 0, cur, rfl, Nat.zero_le _, hg, fun j u hj => ?_⟩, h1, h2⟩
    rw [← hcur, List.getElem?_take] at hj
    split at hj
    · simpa using hj
    · cases hj
theorem PKx.setLine {w : World} {base P ln ln' en n k : Nat} {vn vu vq vg : Value} {A : Option Addr} {l : List We} {c : Cf} (h : PKx w base P vn vu vq vg A n k c ln l en) : PKx (w.setCell ⟨P, 4, none⟩ (.int .i64 (ln' : Int))) base P vn vu vq vg A n k c ln' l en := by
  obtain ⟨h1, h2, h3, h4, h5, h6, h7⟩ := h
  refine ⟨?_, h2, own_store h3 h1 (by decide) _ _, own_store h4 h1 (by decide) _ _, own_store h5 h1 (by decide) _ _, own_store h6 h1 (by decide) _ _, h7.set h1⟩
  have := h1.store 4 (.int .i64 (ln' : Int))
  simpa using this
theorem PKx.setLeft {w : World} {base P ln en n k n' k' : Nat} {vn vu vq vg : Value} {A A' : Option Addr} {l l' : List We} {c : Cf} (h : PKx w base P vn vu vq vg A n k c ln l en) (ha : ArgE w A' n' k' l') : PKx (w.setCell ⟨P, 5, none⟩ (.slice A' n' k')) base P vn vu vq vg A' n' k' c ln l' en := by
  obtain ⟨h1, h2, h3, h4, h5, h6, h7⟩ := h
  refine ⟨?_, h2, own_store h3 h1 (by decide) _ _, own_store h4 h1 (by decide) _ _, own_store h5 h1 (by decide) _ _, own_store h6 h1 (by decide) _ _, ha.set h1⟩
  have := h1.store 5 (.slice A' n' k')
  simpa using this

def lineMs (a b : Value) : Nat := match b with
  | .bool true => match a with
    | .string s => s.size + 1
    | _ => 0
  | _ => 0
theorem lineMs_on (R : List UInt8) : lineMs (.string ⟨R.toArray⟩) (.bool true) = R.length + 1 := by
  show (⟨R.toArray⟩ : ByteArray).size + 1 = _
  rw [size_list]
theorem lineMs_off (R : List UInt8) : lineMs (.string ⟨R.toArray⟩) (.bool false) = 0 := rfl
def TextR (base m : Nat) (r : Cf × Option (Nat × Nat)) (w : World) (e : Ending) (w' : World) : Prop :=
  (∃ a k, r.2 = some (a, k) ∧ FailEnd a k base w e w') ∨
  (r.2 = none ∧ Okf r.1 m ∧ (∃ vn vu vq vg, e = .returned (.agg #[vn, vu, vq, vg]) ∧ w'.ownsRow base 9 1 vn r.1.names.length (r.1.names.map strV) ∧ w'.ownsRow base 37 1 vu r.1.up.length (r.1.up.map u64V) ∧ w'.ownsRow base 3 1 vq r.1.quotas.length (r.1.quotas.map (Value.int .i64)) ∧ w'.ownsRow base 45 3 vg r.1.grants.length (cellsG r.1.grants)) ∧ Below base w w')
def RelT (L : List UInt8) (base P : Nat) (w : World) (RES : Cf × Option (Nat × Nat)) (v4 v5 : Value) (wr : World) : Prop :=
  ∃ (R : List UInt8) (mo : Bool) (c : Cf) (ln m : Nat) (l : List We) (en : Nat), v4 = .string ⟨R.toArray⟩ ∧ v5 = .bool mo ∧ PK wr base P c ln l en ∧ Below base w wr ∧ Okf c m ∧ m ≤ ln ∧ ln + R.length ≤ L.length + 1 ∧ (mo = true → ln + R.length ≤ L.length ∧ parseR (linesN R) (ln + 1) c = RES) ∧ (mo = false → (c, none) = RES)
theorem step_line {R : List UInt8} {c : Cf} {ln : Nat} {RES : Cf × Option (Nat × Nat)} (h : parseR (linesN R) (ln + 1) c = RES) :
    ((wordsN (cutAt 10 R).1).1 = [] → parseR (if (cutAt 10 R).2.2 = true then linesN (cutAt 10 R).2.1 else []) (ln + 2) c = RES) ∧
    ((wordsN (cutAt 10 R).1).1 ≠ [] → (∀ p, lineO c (wordsN (cutAt 10 R).1).1 (wordsN (cutAt 10 R).1).2 = some p → RES = (c, some (ln + 1, p))) ∧
      (lineO c (wordsN (cutAt 10 R).1).1 (wordsN (cutAt 10 R).1).2 = none → parseR (if (cutAt 10 R).2.2 = true then linesN (cutAt 10 R).2.1 else []) (ln + 2) (doRaw c (wordsN (cutAt 10 R).1).1) = RES)) := by
  rw [lines_cut] at h
  unfold parseR at h
  refine ⟨fun hx => by rw [if_pos hx] at h; exact h, fun hx => ?_⟩
  rw [if_neg hx] at h
  refine ⟨fun p hp => by rw [hp] at h; exact h.symm, fun hp => by rw [hp] at h; exact h⟩
theorem next_rel {L R : List UInt8} {base P ln en m : Nat} {c : Cf} {l : List We} {w wr : World} {RES : Cf × Option (Nat × Nat)} {v4 v5 : Value} (h4 : v4 = .string ⟨(cutAt 10 R).2.1.toArray⟩) (h5 : v5 = .bool (cutAt 10 R).2.2) (hP : PK wr base P c (ln + 1) l en) (hB : Below base w wr) (hok : Okf c m) (hm : m ≤ ln + 1) (hl : ln + R.length ≤ L.length)
    (h : parseR (if (cutAt 10 R).2.2 = true then linesN (cutAt 10 R).2.1 else []) (ln + 2) c = RES) : RelT L base P w RES v4 v5 wr := by
  have h1 := (cutAt_len 10 R).2
  have h2 := cutAt_room R
  refine ⟨_, _, c, ln + 1, m, l, en, h4, h5, hP, hB, hok, hm, by omega, fun hmo => ?_, fun hmo => ?_⟩
  · rw [if_pos hmo] at h
    exact ⟨by have := h2 hmo; omega, h⟩
  · rw [hmo] at h
    exact h
theorem next_ms {R : List UInt8} : lineMs (.string ⟨(cutAt 10 R).2.1.toArray⟩) (.bool (cutAt 10 R).2.2) < lineMs (.string ⟨R.toArray⟩) (.bool true) := by
  rw [lineMs_on]
  cases h : (cutAt 10 R).2.2
  · rw [lineMs_off]; omega
  · rw [lineMs_on]
    have := cutAt_room R h
    omega
theorem conf_fin {V V1 V2 V3 V4 w : World} {Y : Nat} {a b c d v0 v1 v2 v3 : Value} (hY : Has V Y 28 #[a, b, c, d]) (h1 : V.setCell ⟨Y, 0, none⟩ v0 = V1) (h2 : V1.setCell ⟨Y, 1, none⟩ v1 = V2) (h3 : V2.setCell ⟨Y, 2, none⟩ v2 = V3) (h4 : V3.setCell ⟨Y, 3, none⟩ v3 = V4)
    (hB : Below w.heap.size w V) (hYw : w.heap.size ≤ Y) :
    Has V4 Y 28 #[v0, v1, v2, v3] ∧ Below w.heap.size w V4 ∧ ∀ {base : Nat} {e : TypeId} {s m : Nat} {v : Value} {xs : List Value}, e ≠ 28 → V.ownsRow base e s v m xs → V4.ownsRow base e s v m xs := by
  have step : ∀ {U U' : World} {i : Nat} {u : Value} {cs ds : Array Value}, U.setCell ⟨Y, i, none⟩ u = U' → Has U Y 28 cs → cs.setIfInBounds i u = ds → Below w.heap.size w U →
      Has U' Y 28 ds ∧ Below w.heap.size w U' ∧ ∀ {base : Nat} {e : TypeId} {s m : Nat} {v : Value} {xs : List Value}, e ≠ 28 → U.ownsRow base e s v m xs → U'.ownsRow base e s v m xs := by
    intro U U' i u cs ds hU hy hd hb
    subst hU
    exact ⟨setCell_has hy i u ds hd, hb.setCell (p := ⟨Y, i, none⟩) hYw u, fun hne ho => own_keep ho hy hne i u⟩
  obtain ⟨y1, b1, k1⟩ := step h1 hY (ds := #[v0, b, c, d]) (by simp) hB
  obtain ⟨y2, b2, k2⟩ := step h2 y1 (ds := #[v0, v1, c, d]) (by simp) b1
  obtain ⟨y3, b3, k3⟩ := step h3 y2 (ds := #[v0, v1, v2, d]) (by simp) b2
  obtain ⟨y4, b4, k4⟩ := step h4 y3 (ds := #[v0, v1, v2, v3]) (by simp) b3
  exact ⟨y4, b4, fun hne ho => k4 hne (k3 hne (k2 hne (k1 hne ho)))⟩
set_option maxRecDepth 100000 in
set_option maxHeartbeats 4000000 in
theorem readText_any (L : List UInt8) (w : World) (ht : Base5 w) (hl : L.length ≤ 500000) :
    Calls Tryz.prog 17 #[.string ⟨L.toArray⟩] w (TextR w.heap.size (L.length + 1) (parseR (linesN L) 1 cf0) w) := by
  obtain ⟨RES, hRES⟩ : ∃ RES, parseR (linesN L) 1 cf0 = RES := ⟨_, rfl⟩
  rw [hRES]
  have HRES := Lib.hid hRES
  clear hRES
  have HT := Lib.hid ht
  clear ht
  obtain ⟨W0, hW0⟩ : ∃ W0, w.alloc (.cells #[.slice none 0 0, .slice none 0 0, .slice none 0 0, .slice none 0 0] 28) = W0 := ⟨_, rfl⟩
  obtain ⟨W1, hW1⟩ : ∃ W1, W0.alloc (.cells #[.slice none 0 0, .slice none 0 0, .slice none 0 0, .slice none 0 0, .int .i64 0, .slice none 0 0, .int .i64 0] 75) = W1 := ⟨_, rfl⟩
  have hB0 : Below w.heap.size w W0 := hW0 ▸ (Below.refl _ w).alloc (Nat.le_refl _) _
  have hB1 : Below W0.heap.size W0 W1 := hW1 ▸ (Below.refl _ W0).alloc (Nat.le_refl _) _
  have hR0 := Has.made w 28 #[.slice none 0 0, .slice none 0 0, .slice none 0 0, .slice none 0 0]
  have hP0 := Has.made W0 75 #[.slice none 0 0, .slice none 0 0, .slice none 0 0, .slice none 0 0, .int .i64 0, .slice none 0 0, .int .i64 0]
  rw [hW0] at hR0
  rw [hW1] at hP0
  have HR0 := Lib.hid hR0
  have HB0 := Lib.hid hB0
  have hPK : PK W1 W0.heap.size W0.heap.size cf0 0 [] 0 := ⟨.slice none 0 0, .slice none 0 0, .slice none 0 0, .slice none 0 0, none, 0, 0, hP0, Nat.le_refl _, World.ownsRow_nil _ _ _ _, World.ownsRow_nil _ _ _ _, World.ownsRow_nil _ _ _ _, World.ownsRow_nil _ _ _ _, ⟨rfl, Row.empty, Nat.le_refl _, Nat.zero_le _⟩⟩
  have HPK := Lib.hid hPK
  have HB1 := Lib.hid hB1
  have hs0 := Lib.hid hB0.size
  have HBase := Lib.hid (fun (w1 : World) (h1 : Below W0.heap.size W0 w1) => HT.out.below (HB0.out.trans (h1.mono hs0.out)))
  clear hPK hP0 hB1 hR0 hB0
  go_enter Tryz.func17, Tryz.ntmps17
  go_wp2
  go_loopw [4, 5] (fun v4 v5 wr => RelT L W0.heap.size W0.heap.size W0 RES v4 v5 wr) (fun v4 v5 _ => lineMs v4 v5)
  case atStart => exact ⟨L, true, cf0, 0, 0, [], 0, rfl, rfl, HPK.out, HB1.out, okf0, Nat.le_refl _, by omega, fun _ => ⟨by omega, HRES.out⟩, fun h => by cases h⟩
  case round =>
    obtain ⟨R, mo, c, ln, m, l, en, rfl, rfl, hP, hB, hok, hm, hlen, hmo1, hmo2⟩ := hrel
    cases mo
    · have hR := hmo2 rfl
      subst hR
      obtain ⟨vn, vu, vq, vg, A, n, k, hx⟩ := hP
      have o1 := own_low hx.2.2.1 hs0.out
      have o2 := own_low hx.2.2.2.1 hs0.out
      have o3 := own_low hx.2.2.2.2.1 hs0.out
      have o4 := own_low hx.2.2.2.2.2.1 hs0.out
      obtain ⟨nA, nk, rfl⟩ := own_sl o1
      obtain ⟨uA, uk, rfl⟩ := own_sl o2
      obtain ⟨qA, qk, rfl⟩ := own_sl o3
      obtain ⟨gA, gk, rfl⟩ := own_sl o4
      have hRr := HR0.out.below hB HR0.out.lt
      have p0 : wr.cell? ⟨W0.heap.size, 0, none⟩ = some (.slice nA c.names.length nk) := by rw [hx.1.cell]; simp
      have p1 : wr.cell? ⟨W0.heap.size, 1, none⟩ = some (.slice uA c.up.length uk) := by rw [hx.1.cell]; simp
      have p2 : wr.cell? ⟨W0.heap.size, 2, none⟩ = some (.slice qA c.quotas.length qk) := by rw [hx.1.cell]; simp
      have p3 : wr.cell? ⟨W0.heap.size, 3, none⟩ = some (.slice gA c.grants.length gk) := by rw [hx.1.cell]; simp
      have r0 : wr.cell? ⟨w.heap.size, 0, none⟩ = some (.slice none 0 0) := by rw [hRr.cell]; simp
      have r1 : wr.cell? ⟨w.heap.size, 1, none⟩ = some (.slice none 0 0) := by rw [hRr.cell]; simp
      have r2 : wr.cell? ⟨w.heap.size, 2, none⟩ = some (.slice none 0 0) := by rw [hRr.cell]; simp
      have r3 : wr.cell? ⟨w.heap.size, 3, none⟩ = some (.slice none 0 0) := by rw [hRr.cell]; simp
      have z0 := hRr.free 0
      have z1 := hRr.free 1
      have z2 := hRr.free 2
      have z3 := hRr.free 3
      have HFin := Lib.hid (fun (V1 V2 V3 V4 : World) h1 h2 h3 h4 => conf_fin (V1 := V1) (V2 := V2) (V3 := V3) (V4 := V4) (v0 := .slice nA c.names.length nk) (v1 := .slice uA c.up.length uk) (v2 := .slice qA c.quotas.length qk) (v3 := .slice gA c.grants.length gk) hRr h1 h2 h3 h4 (HB0.out.trans (hB.mono hs0.out)) (Nat.le_refl _))
      have HO := Lib.hid (And.intro o1 (And.intro o2 (And.intro o3 o4)))
      have HK := Lib.hid hok
      clear hx o1 o2 o3 o4 hRr hB hok hmo1 hmo2
      obtain ⟨w3, hw3⟩ : ∃ w3 : World, w3 = wr := ⟨_, rfl⟩
      subst hw3
      go_wp2
      obtain ⟨e1, e2, e3⟩ := HFin.out _ _ _ _ rfl rfl rfl rfl
      refine bodyPost_ret (results_cell_row rfl _ _ w.heap.size 28 _ (0, 0) _ rfl e1 Tryz.underlying28 rfl (by kernel_rfl)) rfl ?_
      exact .inr ⟨rfl, ⟨HK.out.ups, HK.out.quo, HK.out.most, HK.out.big, by have := HK.out.few; show c.grants.length ≤ _; omega⟩, ⟨_, _, _, _, rfl, e3 (by decide) HO.out.1, e3 (by decide) HO.out.2.1, e3 (by decide) HO.out.2.2.1, e3 (by decide) HO.out.2.2.2⟩, e2⟩
    · obtain ⟨hlen2, hpar⟩ := hmo1 rfl
      obtain ⟨vn, vu, vq, vg, A, n, k, hx'⟩ := hP
      have hx := Lib.hid hx'
      have HB := Lib.hid hB
      have HWs := Lib.hid hB.size
      obtain ⟨s1, s2⟩ := step_line hpar
      have HS1 := Lib.hid s1
      have HS2 := Lib.hid s2
      have HCut := Lib.hid (fun w1 => strCut_any R 10 w1 (by omega))
      have hxl := (cutAt_len 10 R).1
      have HNx := Lib.hid (fun (c' : Cf) (m' en' : Nat) (l' : List We) (w' : World) (hP : PK w' W0.heap.size W0.heap.size c' (ln + 1) l' en') (hB : Below W0.heap.size W0 w') (ho : Okf c' m') (hm' : m' ≤ ln + 1) hh => next_rel (L := L) (R := R) (RES := RES) rfl rfl hP hB ho hm' hlen2 hh)
      have HMs := Lib.hid (next_ms (R := R))
      have HOk := Lib.hid hok
      clear hx' hB hpar s1 s2 hmo1 hmo2 hok
      generalize cutAt 10 R = y at HCut HS1 HS2 hxl HNx HMs
      obtain ⟨x, y2, y3⟩ := y
      simp only at HCut HS1 HS2 hxl HNx HMs
      have HWd := Lib.hid (fun w1 => words_any x w1 (by omega))
      have hl0 : (0 : Int) ≤ (ln : Int) := by omega
      have hl1 : (ln : Int) ≤ 600000 := by omega
      by_cases hxe : (wordsN x).1 = []
      · have HS3 := Lib.hid (HS1.out hxe)
        have HN0 : Hid ((wordsN x).1.length = 0) := Lib.hid (by rw [hxe]; rfl)
        clear hxe
        go_wp2_with (first | (go_at_call 46; go_loud ((with_reducible refine (HCut.out _).mono ?_); rintro e w1 ⟨rfl, h1⟩; have X0 := Lib.hid (hx.out.below h1); have B0 := Lib.hid (below_more HB.out (Nat.le_refl _) h1); have c4 : w1.cell? ⟨W0.heap.size, 4, none⟩ = some (.int .i64 (ln : Int)) := (by rw [X0.out.1.cell]; simp); have f4 := X0.out.1.free 4; obtain ⟨V1, hV1⟩ : ∃ V1, w1.setCell ⟨W0.heap.size, 4, none⟩ (.int .i64 ((ln : Int) + 1)) = V1 := ⟨_, rfl⟩; have X1 := Lib.hid (show PKx V1 _ _ _ _ _ _ _ _ _ _ _ _ _ from hV1 ▸ (show PKx (w1.setCell ⟨W0.heap.size, 4, none⟩ (.int .i64 ((ln : Int) + 1))) W0.heap.size W0.heap.size vn vu vq vg A n k c (ln + 1) l en by have := PKx.setLine (ln' := ln + 1) X0.out; simpa using this)); have B1 := Lib.hid (show Below W0.heap.size W0 V1 from hV1 ▸ B0.out.setCell (p := ⟨W0.heap.size, 4, none⟩) (Nat.le_refl _) _); clear h1)) | (go_at_call 47; (with_reducible refine (HWd.out _).mono ?_); rintro e w2 ⟨out, v, rfl, ho, hWN, h2⟩; obtain ⟨A2, k2, hv2⟩ := own_sl ho; subst hv2; have X2 := Lib.hid (X1.out.below h2); have B2 := Lib.hid (below_more B1.out (Nat.le_refl _) h2); have E2 := Lib.hid (argE_own ho rfl); have c5 : w2.cell? ⟨W0.heap.size, 5, none⟩ = some (.slice A n k) := (by rw [X2.out.1.cell]; simp); have f5 := X2.out.1.free 5; obtain ⟨V2, hV2⟩ : ∃ V2, w2.setCell ⟨W0.heap.size, 5, none⟩ (.slice A2 out.length k2) = V2 := ⟨_, rfl⟩; have X3 := Lib.hid (show PKx V2 _ _ _ _ _ _ _ _ _ _ _ _ _ from hV2 ▸ PKx.setLeft X2.out E2.out); have B3 := Lib.hid (show Below W0.heap.size W0 V2 from hV2 ▸ B2.out.setCell (p := ⟨W0.heap.size, 5, none⟩) (Nat.le_refl _) _); have d5 : V2.cell? ⟨W0.heap.size, 5, none⟩ = some (.slice A2 out.length k2) := (by rw [X3.out.1.cell]; simp); have HWN := Lib.hid hWN; have hlo : out.length = (wordsN x).1.length := (by rw [hWN, List.length_map]); clear ho hWN h2 ; obtain rfl : out = [] := List.eq_nil_of_length_eq_zero (by have := HN0.out; omega); clear hlo))
        go_roundw
        case rel =>
          rw [← hV2] at X3 B3
          exact HNx.out _ _ _ _ _ ⟨_, _, _, _, _, _, _, X3.out⟩ B3.out HOk.out (by omega) HS3.out
        case measure => exact HMs.out
      · obtain ⟨s3, s4⟩ := HS2.out hxe
        obtain ⟨w1', w2', w3'⟩ := wordsN_at x
        have HWl := Lib.hid (wordsN_len x)
        have HNp : Hid (0 < (wordsN x).1.length) := Lib.hid (List.length_pos_iff.2 hxe)
        have HRd : Hid (∀ (out : List We) (en' : Nat), out ≠ [] → ∀ (V : World), PK V W0.heap.size W0.heap.size c (ln + 1) out en' → Below W0.heap.size W0 V → wordsN x = (out.map wdOf, lastE out) → Calls Tryz.prog 48 #[.pointer (some ⟨W0.heap.size, 0, none⟩)] V (ReadEnd W0.heap.size W0.heap.size (ln + 1) c (wordsN x).1 (wordsN x).2 V)) := Lib.hid (fun out en' hne V hP hV hw => by
          have hm1 : ∀ y ∈ out, wdOf y ∈ (wordsN x).1 := fun y hy => by rw [hw]; exact List.mem_map_of_mem hy
          have := readLine_any (base := W0.heap.size) (P := W0.heap.size) (ln := ln + 1) (en := en') (m := m) (c := c) out hne V hP hV.size (fun w' hb => HBase.out w' (hV.trans hb)) HOk.out (by omega) (fun y hy => by have := HWl.out _ (hm1 y hy); have e : (wdOf y).1 = y.1 := rfl; rw [e] at this; omega) (fun y hy => (w1' _ (hm1 y hy)).1) (by rw [hw] at w2'; exact w2')
          rw [hw]
          exact this)
        cases hlo : lineO c (wordsN x).1 (wordsN x).2 with
        | some p =>
          have HR := Lib.hid (s3 p hlo)
          have HRx : Hid (∀ V, Calls Tryz.prog 48 #[.pointer (some ⟨W0.heap.size, 0, none⟩)] V (ReadEnd W0.heap.size W0.heap.size (ln + 1) c (wordsN x).1 (wordsN x).2 V) → Calls Tryz.prog 48 #[.pointer (some ⟨W0.heap.size, 0, none⟩)] V (FailEnd (ln + 1) p W0.heap.size V)) := Lib.hid (fun V h => h.mono fun e w' hr => by
            rcases hr with ⟨q, h1, _, hf⟩ | ⟨h1, _⟩
            · rw [hlo] at h1; injection h1 with h1; subst h1; exact hf
            · rw [hlo] at h1; cases h1)
          clear s3 s4 hlo hxe w1' w2' w3'
          go_wp2_with (first | (go_at_call 46; go_loud ((with_reducible refine (HCut.out _).mono ?_); rintro e w1 ⟨rfl, h1⟩; have X0 := Lib.hid (hx.out.below h1); have B0 := Lib.hid (below_more HB.out (Nat.le_refl _) h1); have c4 : w1.cell? ⟨W0.heap.size, 4, none⟩ = some (.int .i64 (ln : Int)) := (by rw [X0.out.1.cell]; simp); have f4 := X0.out.1.free 4; obtain ⟨V1, hV1⟩ : ∃ V1, w1.setCell ⟨W0.heap.size, 4, none⟩ (.int .i64 ((ln : Int) + 1)) = V1 := ⟨_, rfl⟩; have X1 := Lib.hid (show PKx V1 _ _ _ _ _ _ _ _ _ _ _ _ _ from hV1 ▸ (show PKx (w1.setCell ⟨W0.heap.size, 4, none⟩ (.int .i64 ((ln : Int) + 1))) W0.heap.size W0.heap.size vn vu vq vg A n k c (ln + 1) l en by have := PKx.setLine (ln' := ln + 1) X0.out; simpa using this)); have B1 := Lib.hid (show Below W0.heap.size W0 V1 from hV1 ▸ B0.out.setCell (p := ⟨W0.heap.size, 4, none⟩) (Nat.le_refl _) _); clear h1)) | (go_at_call 47; (with_reducible refine (HWd.out _).mono ?_); rintro e w2 ⟨out, v, rfl, ho, hWN, h2⟩; obtain ⟨A2, k2, hv2⟩ := own_sl ho; subst hv2; have X2 := Lib.hid (X1.out.below h2); have B2 := Lib.hid (below_more B1.out (Nat.le_refl _) h2); have E2 := Lib.hid (argE_own ho rfl); have c5 : w2.cell? ⟨W0.heap.size, 5, none⟩ = some (.slice A n k) := (by rw [X2.out.1.cell]; simp); have f5 := X2.out.1.free 5; obtain ⟨V2, hV2⟩ : ∃ V2, w2.setCell ⟨W0.heap.size, 5, none⟩ (.slice A2 out.length k2) = V2 := ⟨_, rfl⟩; have X3 := Lib.hid (show PKx V2 _ _ _ _ _ _ _ _ _ _ _ _ _ from hV2 ▸ PKx.setLeft X2.out E2.out); have B3 := Lib.hid (show Below W0.heap.size W0 V2 from hV2 ▸ B2.out.setCell (p := ⟨W0.heap.size, 5, none⟩) (Nat.le_refl _) _); have d5 : V2.cell? ⟨W0.heap.size, 5, none⟩ = some (.slice A2 out.length k2) := (by rw [X3.out.1.cell]; simp); have HWN := Lib.hid hWN; have hlo : out.length = (wordsN x).1.length := (by rw [hWN, List.length_map]); clear ho hWN h2 ; have hlp : 0 < out.length := (by have := HNp.out; omega); have hne : out ≠ [] := List.length_pos_iff.1 hlp; have hlp2 : (0 : Int) < (out.length : Int) := (by omega); have HRl := Lib.hid (HRd.out out _ hne V2 ⟨_, _, _, _, _, _, _, X3.out⟩ B3.out HWN.out); clear hlo) | (go_at_call 48; (with_reducible refine (HRx.out _ HRl.out).mono ?_); rintro e w3 ⟨rfl, h1⟩; have B4 := Lib.hid (B3.out.trans h1); clear h1))
          exact ⟨rfl, .inl ⟨_, _, by rw [HR.out], rfl, HB0.out.trans (B4.out.mono hs0.out)⟩⟩
        | none =>
          have HS3 := Lib.hid (s4 hlo)
          have HO2 := Lib.hid (raw_rel HOk.out ⟨rfl, rfl, rfl, rfl⟩ hlo (d := ⟨c.names, c.up, c.quotas, c.grants.foldl insG []⟩)).1
          have HRx : Hid (∀ V, Calls Tryz.prog 48 #[.pointer (some ⟨W0.heap.size, 0, none⟩)] V (ReadEnd W0.heap.size W0.heap.size (ln + 1) c (wordsN x).1 (wordsN x).2 V) → Calls Tryz.prog 48 #[.pointer (some ⟨W0.heap.size, 0, none⟩)] V (DoneEnd W0.heap.size W0.heap.size (ln + 1) (doRaw c (wordsN x).1) V)) := Lib.hid (fun V h => h.mono fun e w' hr => by
            rcases hr with ⟨q, h1, _, hf⟩ | ⟨_, h1⟩
            · rw [hlo] at h1; cases h1
            · exact h1)
          clear s3 s4 hlo hxe w1' w2' w3'
          go_wp2_with (first | (go_at_call 46; go_loud ((with_reducible refine (HCut.out _).mono ?_); rintro e w1 ⟨rfl, h1⟩; have X0 := Lib.hid (hx.out.below h1); have B0 := Lib.hid (below_more HB.out (Nat.le_refl _) h1); have c4 : w1.cell? ⟨W0.heap.size, 4, none⟩ = some (.int .i64 (ln : Int)) := (by rw [X0.out.1.cell]; simp); have f4 := X0.out.1.free 4; obtain ⟨V1, hV1⟩ : ∃ V1, w1.setCell ⟨W0.heap.size, 4, none⟩ (.int .i64 ((ln : Int) + 1)) = V1 := ⟨_, rfl⟩; have X1 := Lib.hid (show PKx V1 _ _ _ _ _ _ _ _ _ _ _ _ _ from hV1 ▸ (show PKx (w1.setCell ⟨W0.heap.size, 4, none⟩ (.int .i64 ((ln : Int) + 1))) W0.heap.size W0.heap.size vn vu vq vg A n k c (ln + 1) l en by have := PKx.setLine (ln' := ln + 1) X0.out; simpa using this)); have B1 := Lib.hid (show Below W0.heap.size W0 V1 from hV1 ▸ B0.out.setCell (p := ⟨W0.heap.size, 4, none⟩) (Nat.le_refl _) _); clear h1)) | (go_at_call 47; (with_reducible refine (HWd.out _).mono ?_); rintro e w2 ⟨out, v, rfl, ho, hWN, h2⟩; obtain ⟨A2, k2, hv2⟩ := own_sl ho; subst hv2; have X2 := Lib.hid (X1.out.below h2); have B2 := Lib.hid (below_more B1.out (Nat.le_refl _) h2); have E2 := Lib.hid (argE_own ho rfl); have c5 : w2.cell? ⟨W0.heap.size, 5, none⟩ = some (.slice A n k) := (by rw [X2.out.1.cell]; simp); have f5 := X2.out.1.free 5; obtain ⟨V2, hV2⟩ : ∃ V2, w2.setCell ⟨W0.heap.size, 5, none⟩ (.slice A2 out.length k2) = V2 := ⟨_, rfl⟩; have X3 := Lib.hid (show PKx V2 _ _ _ _ _ _ _ _ _ _ _ _ _ from hV2 ▸ PKx.setLeft X2.out E2.out); have B3 := Lib.hid (show Below W0.heap.size W0 V2 from hV2 ▸ B2.out.setCell (p := ⟨W0.heap.size, 5, none⟩) (Nat.le_refl _) _); have d5 : V2.cell? ⟨W0.heap.size, 5, none⟩ = some (.slice A2 out.length k2) := (by rw [X3.out.1.cell]; simp); have HWN := Lib.hid hWN; have hlo : out.length = (wordsN x).1.length := (by rw [hWN, List.length_map]); clear ho hWN h2 ; have hlp : 0 < out.length := (by have := HNp.out; omega); have hne : out ≠ [] := List.length_pos_iff.1 hlp; have hlp2 : (0 : Int) < (out.length : Int) := (by omega); have HRl := Lib.hid (HRd.out out _ hne V2 ⟨_, _, _, _, _, _, _, X3.out⟩ B3.out HWN.out); clear hlo) | (go_at_call 48; (with_reducible refine (HRx.out _ HRl.out).mono ?_); rintro e w3 ⟨rfl, ⟨en3, h1⟩, h2⟩; have P4 := Lib.hid h1; have B4 := Lib.hid (B3.out.trans h2); clear h1 h2))
          go_roundw
          case rel => exact HNx.out _ _ _ _ _ P4.out B4.out HO2.out (by omega) HS3.out
          case measure => exact HMs.out

end Go.Proofs.YtglkmpglpddfdaaGreatDoor
end

section
namespace Go.Proofs.YtglkmpglpddfdaaGreatDoor
open Go.RowKit
set_option linter.unusedVariables false

theorem wp_heldH {P : Program} {id : Nat} {ops : Array Oper} {Q : Exit → Act → World → Prop} {a : Act} {w : World} (S : World → Prop) (hm : P.follows .mixedOrders = true)
    (h : wpAnyH P .any ops (Runs (Q .normal)) S ops.size (Array.replicate ops.size false) a w.drew) : (Code.region id ops true).wp P Q a w :=
  wp_mono (Q := Runs (Q .normal)) (wp_region_held hm h) (fun e a w h => by cases e <;> first | exact h | exact False.elim h)
structure Rs (w : World) (B : Nat) (a b c d : Value) (e l k : Int) : Prop where
  r0 : Has w B 28 #[a, b, c, d]
  r1 : Has w (B + 1) 29 #[.int .i64 e]
  r2 : Has w (B + 2) 3 #[.int .i64 l]
  r3 : Has w (B + 3) 3 #[.int .i64 k]
theorem Rs.below {w w' : World} {B : Nat} {a b c d : Value} {e l k : Int} (h : Rs w B a b c d e l k) (hb : Below w.heap.size w w') : Rs w' B a b c d e l k :=
  ⟨h.r0.below hb h.r0.lt, h.r1.below hb h.r1.lt, h.r2.below hb h.r2.lt, h.r3.below hb h.r3.lt⟩
theorem set_away {U U' : World} {Y i : Nat} {u : Value} (hU : U.setCell ⟨Y, i, none⟩ u = U') {g : Nat} {t : TypeId} {cs : Array Value} (hg : g ≠ Y) (hh : Has U g t cs) : Has U' g t cs :=
  hU ▸ hh.away (p := ⟨Y, i, none⟩) hg u
theorem set_own {U U' : World} {Y i : Nat} {u : Value} (hU : U.setCell ⟨Y, i, none⟩ u = U') {t : TypeId} {cs ds : Array Value} (hh : Has U Y t cs) (hd : cs.setIfInBounds i u = ds) : Has U' Y t ds :=
  hU ▸ setCell_has hh i u ds hd
theorem set_below {w U U' : World} {Y i : Nat} {u : Value} {C : Nat} (hU : U.setCell ⟨Y, i, none⟩ u = U') (hC : C ≤ Y) (hb : Below C w U) : Below C w U' :=
  hU ▸ hb.setCell (p := ⟨Y, i, none⟩) hC u
structure RsE (w V : World) (B : Nat) : Prop where
  hp : ∀ g, B + 3 < g → V.heap[g]? = w.heap[g]?
  low : ∀ (w0 : World) (C : Nat), C ≤ B → Below C w0 w → Below C w0 V
theorem RsE.up {w V : World} {B : Nat} (h : RsE w V B) {g : Nat} {t : TypeId} {cs : Array Value} (hg : B + 3 < g) (hh : Has w g t cs) : Has V g t cs := (h.hp g hg).trans hh
theorem RsE.then {w V U : World} {B : Nat} (h : RsE w V B) (k : RsE V U B) : RsE w U B := ⟨fun g hg => (k.hp g hg).trans (h.hp g hg), fun w0 C hC hb => k.low w0 C hC (h.low w0 C hC hb)⟩
theorem RsE.size {w V : World} {B : Nat} (h : RsE w V B) : w.heap.size ≤ V.heap.size := (h.low w 0 (Nat.zero_le _) (Below.refl _ _)).size
theorem RsE.own {w V : World} {B b : Nat} (h : RsE w V B) (hb : B + 4 ≤ b) {e : TypeId} {s n : Nat} {v : Value} {xs : List Value} (ho : w.ownsRow b e s v n xs) : V.ownsRow b e s v n xs := by
  refine ⟨ho.1, ?_⟩
  rcases ho.2 with hn | ⟨g, cap, cur, rfl, hb2, hgg, rest⟩
  · exact .inl hn
  · exact .inr ⟨g, cap, cur, rfl, hb2, by rw [h.hp g (by omega)]; exact hgg, rest⟩
theorem RsE.arg {w V : World} {B : Nat} (h : RsE w V B) {A : Option Addr} {n c : Nat} {l : List Nat} (ha : ArgU w A n c l) (hA : ∀ a, A = some a → B + 4 ≤ a.block) : ArgU V A n c l :=
  ⟨ha.len, fun hx => by
    obtain ⟨g, off, rfl, hc⟩ := ha.reads hx
    exact ⟨g, off, rfl, fun j u hj => (World.cell?_of_block (h.hp g (by have := hA _ rfl; simp at this; omega))).trans (hc j u hj)⟩, fun hn a he => Nat.lt_of_lt_of_le (ha.old hn a he) h.size, ha.room, ha.most, ha.big⟩
theorem set_hp {U U' : World} {Y i : Nat} {u : Value} (hU : U.setCell ⟨Y, i, none⟩ u = U') {g : Nat} (hg : g ≠ Y) : U'.heap[g]? = U.heap[g]? := hU ▸ Below.heap_setCell U ⟨Y, i, none⟩ u g hg
theorem Rs.conf {w V1 V2 V3 V : World} {B : Nat} {a b c d a' b' c' d' : Value} {e l k : Int} (h : Rs w B a b c d e l k)
    (h1 : w.setCell ⟨B, 0, none⟩ a' = V1) (h2 : V1.setCell ⟨B, 1, none⟩ b' = V2) (h3 : V2.setCell ⟨B, 2, none⟩ c' = V3) (h4 : V3.setCell ⟨B, 3, none⟩ d' = V) :
    Rs V B a' b' c' d' e l k ∧ RsE w V B := by
  obtain ⟨r0, r1, r2, r3⟩ := h
  have a1 := set_own h1 r0 (ds := #[a', b, c, d]) (by simp)
  have a2 := set_own h2 a1 (ds := #[a', b', c, d]) (by simp)
  have a3 := set_own h3 a2 (ds := #[a', b', c', d]) (by simp)
  have a4 := set_own h4 a3 (ds := #[a', b', c', d']) (by simp)
  have key : ∀ {g : Nat} {t : TypeId} {cs : Array Value}, g ≠ B → Has w g t cs → Has V g t cs := fun hg hh => set_away h4 hg (set_away h3 hg (set_away h2 hg (set_away h1 hg hh)))
  exact ⟨⟨a4, key (by omega) r1, key (by omega) r2, key (by omega) r3⟩, fun g hg => (set_hp h4 (by omega)).trans ((set_hp h3 (by omega)).trans ((set_hp h2 (by omega)).trans (set_hp h1 (by omega)))), fun w0 C hC hb => set_below h4 hC (set_below h3 hC (set_below h2 hC (set_below h1 hC hb)))⟩
theorem Rs.num1 {w V : World} {B : Nat} {a b c d : Value} {e l k e' : Int} (h : Rs w B a b c d e l k) (h1 : w.setCell ⟨B + 1, 0, none⟩ (.int .i64 e') = V) : Rs V B a b c d e' l k ∧ RsE w V B := by
  obtain ⟨r0, r1, r2, r3⟩ := h
  exact ⟨⟨set_away h1 (by omega) r0, set_own h1 r1 (by simp), set_away h1 (by omega) r2, set_away h1 (by omega) r3⟩, fun g hg => set_hp h1 (by omega), fun w0 C hC hb => set_below h1 (by omega) hb⟩
theorem Rs.num2 {w V : World} {B : Nat} {a b c d : Value} {e l k l' : Int} (h : Rs w B a b c d e l k) (h1 : w.setCell ⟨B + 2, 0, none⟩ (.int .i64 l') = V) : Rs V B a b c d e l' k ∧ RsE w V B := by
  obtain ⟨r0, r1, r2, r3⟩ := h
  exact ⟨⟨set_away h1 (by omega) r0, set_away h1 (by omega) r1, set_own h1 r2 (by simp), set_away h1 (by omega) r3⟩, fun g hg => set_hp h1 (by omega), fun w0 C hC hb => set_below h1 (by omega) hb⟩
theorem Rs.num3 {w V : World} {B : Nat} {a b c d : Value} {e l k k' : Int} (h : Rs w B a b c d e l k) (h1 : w.setCell ⟨B + 3, 0, none⟩ (.int .i64 k') = V) : Rs V B a b c d e l k' ∧ RsE w V B := by
  obtain ⟨r0, r1, r2, r3⟩ := h
  exact ⟨⟨set_away h1 (by omega) r0, set_away h1 (by omega) r1, set_away h1 (by omega) r2, set_own h1 r3 (by simp)⟩, fun g hg => set_hp h1 (by omega), fun w0 C hC hb => set_below h1 (by omega) hb⟩
def resP (B : Nat) : Array Value := #[.pointer (some ⟨B, 0, none⟩), .pointer (some ⟨B + 1, 0, none⟩), .pointer (some ⟨B + 2, 0, none⟩), .pointer (some ⟨B + 3, 0, none⟩)]
@[go_sem] theorem asPlace (v : Value) (w : World) : (Instr.typeAssert (.iface 39 v) 20 39 false).run Tryz.prog w = .ok v w := by kernel_rfl
set_option maxRecDepth 100000 in
set_option maxHeartbeats 4000000 in
theorem catch_fail (B ln at_ : Nat) (a b c d : Value) (e l k : Int) (older : List PanicEntry) (w : World) (h : Rs w B a b c d e l k) :
    CallsD Tryz.prog 16 (resP B) (.panicking ({ v := .iface 39 (.agg #[.int .i64 (ln : Int), .int .i64 (at_ : Int)]), recovered := false } :: older)) w fun e' u' w' =>
      e' = .returned (.tuple #[]) ∧ u' = .panicking ({ v := .iface 39 (.agg #[.int .i64 (ln : Int), .int .i64 (at_ : Int)]), recovered := true } :: older) ∧ Rs w' B (.slice none 0 0) (.slice none 0 0) (.slice none 0 0) (.slice none 0 0) 13 ln at_ ∧ ∀ C, C ≤ B → Below C w w' := by
  have hmx : Tryz.prog.follows .mixedOrders = true := by kernel_rfl
  unfold resP
  refine callsD_of_wpS Tryz.func16 rfl fun c₀ cs hu => ?_
  apply wpS_seq
  apply wpS_region
  simp [wpOpsS, go_sem, recoverD, hu, Tryz.ntmps16, Exit.thenS, Array.replicate]
  apply wpS_seq
  apply wpS_region
  simp [wpOpsS, go_sem, Exit.thenS]
  refine wpS_cond (t := true) (by simp [Act.eval]) ?_
  simp only [if_true]
  refine wpS_of_wp ?_
  go_wp2
  obtain ⟨W1, hW1⟩ : ∃ W, w.alloc (.cells #[.int .i64 (ln : Int), .int .i64 (at_ : Int)] 39) = W := ⟨_, rfl⟩
  rw [hW1]
  obtain ⟨D, hD⟩ : ∃ D, W1.drew = D := ⟨_, rfl⟩
  have hN : Has D w.heap.size 39 #[.int .i64 (ln : Int), .int .i64 (at_ : Int)] := by rw [← hD, ← hW1]; exact (Has.made w 39 _).drew
  have hR : Rs D B a b c d e l k := by rw [← hD, ← hW1]; exact ⟨(h.r0.alloc _).drew, (h.r1.alloc _).drew, (h.r2.alloc _).drew, (h.r3.alloc _).drew⟩
  have hB : ∀ C, C ≤ B → Below C w D := by
    intro C hC
    rw [← hD, ← hW1]
    exact (below_alloc1 (Below.refl _ _) _ (Nat.le_trans hC (Nat.le_of_lt h.r0.lt))).drew
  have hlt := h.r3.lt
  have hS0 : D.cell? ⟨w.heap.size, 0, none⟩ = some (.int .i64 (ln : Int)) ∧ D.cell? ⟨w.heap.size, 1, none⟩ = some (.int .i64 (at_ : Int)) := ⟨hN.cell0, hN.cell1⟩
  have t0 := hR.r0.cell 0
  have t1 := hR.r0.cell 1
  have t2 := hR.r0.cell 2
  have t3 := hR.r0.cell 3
  have z0 := hR.r0.free 0
  have z1 := hR.r0.free 1
  have z2 := hR.r0.free 2
  have z3 := hR.r0.free 3
  simp at t0 t1 t2 t3
  refine wp_heldH (fun w' : World => w'.cell? ⟨w.heap.size, 0, none⟩ = some (.int .i64 (ln : Int)) ∧ w'.cell? ⟨w.heap.size, 1, none⟩ = some (.int .i64 (at_ : Int))) hmx ?_
  rw [hD]
  refine wpAnyH_take (i := 0) (v := .agg #[.slice none 0 0, .slice none 0 0, .slice none 0 0, .slice none 0 0]) rfl (by kernel_rfl) (by kernel_rfl) (by kernel_rfl) (fun _ _ _ h => h) (Or.inl ⟨by rfl, ?_⟩) hS0 ?_
  · rintro w6 ⟨c1, c2⟩
    go_simp
  simp only [Act.put, List.setIfInBounds_toArray, List.set_cons_zero, List.set_cons_succ, List.getElem_toArray, List.getElem_cons_zero]
  refine wpAnyH_take (i := 1) (v := (.pointer (some ⟨w.heap.size, 0, none⟩))) rfl (by kernel_rfl) (by kernel_rfl) (by kernel_rfl) (fun _ _ _ h => h) (Or.inl ⟨by rfl, ?_⟩) hS0 ?_
  · rintro w6 ⟨c1, c2⟩
    go_simp
  simp only [Act.put, List.setIfInBounds_toArray, List.set_cons_zero, List.set_cons_succ, List.getElem_toArray, List.getElem_cons_zero, List.getElem_cons_succ]
  refine wpAnyH_take (i := 2) (v := (.int .i64 (ln : Int))) rfl (by kernel_rfl) (by kernel_rfl) (by kernel_rfl) (fun _ _ _ h => h) (Or.inl ⟨by rfl, ?_⟩) hS0 ?_
  · rintro w6 ⟨c1, c2⟩
    go_simp
  simp only [Act.put, List.setIfInBounds_toArray, List.set_cons_zero, List.set_cons_succ, List.getElem_toArray, List.getElem_cons_zero, List.getElem_cons_succ]
  refine wpAnyH_take (i := 3) (v := (.pointer (some ⟨w.heap.size, 1, none⟩))) rfl (by kernel_rfl) (by kernel_rfl) (by kernel_rfl) (fun _ _ _ h => h) (Or.inl ⟨by rfl, ?_⟩) hS0 ?_
  · rintro w6 ⟨c1, c2⟩
    go_simp
  simp only [Act.put, List.setIfInBounds_toArray, List.set_cons_zero, List.set_cons_succ, List.getElem_toArray, List.getElem_cons_zero, List.getElem_cons_succ]
  refine wpAnyH_take (i := 4) (v := (.int .i64 (at_ : Int))) rfl (by kernel_rfl) (by kernel_rfl) (by kernel_rfl) (fun _ _ _ h => h) (Or.inl ⟨by rfl, ?_⟩) hS0 ?_
  · rintro w6 ⟨c1, c2⟩
    go_simp
  simp only [Act.put, List.setIfInBounds_toArray, List.set_cons_zero, List.set_cons_succ, List.getElem_toArray, List.getElem_cons_zero, List.getElem_cons_succ]
  refine wpAnyH_ready (rs := [5]) (by kernel_rfl) (by simp) ?_
  refine AllReadyH.cons rfl (fun K5 hK5 => ?_) AllReadyH.nil
  go_simp
  obtain ⟨V4, e4⟩ : ∃ V, (((D.setCell ⟨B, 0, none⟩ (.slice none 0 0)).setCell ⟨B, 1, none⟩ (.slice none 0 0)).setCell ⟨B, 2, none⟩ (.slice none 0 0)).setCell ⟨B, 3, none⟩ (.slice none 0 0) = V := ⟨_, rfl⟩
  rw [e4]
  obtain ⟨hR4, hE4⟩ := hR.conf rfl rfl rfl e4
  have hN4 := hE4.up (by omega) hN
  have u1 := hR4.r1.cell0
  have u2 := hR4.r1.free 0
  refine hK5.out _ _ ⟨hN4.cell0, hN4.cell1⟩ (fun _ => ?_)
  clear hK5 K5
  refine wpAnyH_ready (rs := [6]) (by kernel_rfl) (by simp) ?_
  refine AllReadyH.cons rfl (fun K5 hK5 => ?_) AllReadyH.nil
  go_simp
  obtain ⟨V5, e5⟩ : ∃ V, V4.setCell ⟨B + 1, 0, none⟩ (.int .i64 13) = V := ⟨_, rfl⟩
  rw [e5]
  obtain ⟨hR5, hE5⟩ := hR4.num1 e5
  have hN5 := hE5.up (by omega) hN4
  have u3 := hR5.r2.cell0
  have u4 := hR5.r2.free 0
  refine hK5.out _ _ ⟨hN5.cell0, hN5.cell1⟩ (fun _ => ?_)
  clear hK5 K5
  refine wpAnyH_ready (rs := [7]) (by kernel_rfl) (by simp) ?_
  refine AllReadyH.cons rfl (fun K5 hK5 => ?_) AllReadyH.nil
  go_simp
  obtain ⟨V6, e6⟩ : ∃ V, V5.setCell ⟨B + 2, 0, none⟩ (.int .i64 (ln : Int)) = V := ⟨_, rfl⟩
  rw [e6]
  obtain ⟨hR6, hE6⟩ := hR5.num2 e6
  have hN6 := hE6.up (by omega) hN5
  have u5 := hR6.r3.cell0
  have u6 := hR6.r3.free 0
  refine hK5.out _ _ ⟨hN6.cell0, hN6.cell1⟩ (fun _ => ?_)
  clear hK5 K5
  refine wpAnyH_ready (rs := [8]) (by kernel_rfl) (by simp) ?_
  refine AllReadyH.cons rfl (fun K5 hK5 => ?_) AllReadyH.nil
  go_simp
  obtain ⟨V7, e7⟩ : ∃ V, V6.setCell ⟨B + 3, 0, none⟩ (.int .i64 (at_ : Int)) = V := ⟨_, rfl⟩
  rw [e7]
  obtain ⟨hR7, hE7⟩ := hR6.num3 e7
  have hN7 := hE7.up (by omega) hN6
  refine hK5.out _ _ ⟨hN7.cell0, hN7.cell1⟩ (fun _ => ?_)
  clear hK5 K5
  refine wpAnyH_done (by kernel_rfl) ?_ _
  refine ⟨rfl, _, rfl, .tuple #[], by simp [results, Tryz.f16, go_sem], rfl, rfl, hR7, fun C hC => hE7.low _ _ hC (hE6.low _ _ hC (hE5.low _ _ hC (hE4.low _ _ hC (hB C hC))))⟩
theorem catch_idle (B : Nat) (w : World) :
    CallsD Tryz.prog 16 (resP B) .returning w fun e u' w' => e = .returned (.tuple #[]) ∧ u' = .returning ∧ w' = w := by
  unfold resP
  refine callsD_of_wpS Tryz.func16 rfl fun c₀ cs hu => ?_
  apply wpS_seq
  apply wpS_region
  simp [wpOpsS, go_sem, recoverD, hu, Tryz.ntmps16, Exit.thenS, Array.replicate]
  apply wpS_seq
  apply wpS_region
  simp [wpOpsS, go_sem, Exit.thenS]
  refine wpS_cond (t := false) (by simp [Act.eval]) ?_
  simp only [Bool.false_eq_true, if_false]
  refine wpS_of_wp (wp_skip ?_)
  cases c₀
  simp_all [bodyPostS, results, Tryz.f16, go_sem]

end Go.Proofs.YtglkmpglpddfdaaGreatDoor
end
