import Derived.Test.YtogcbmhcddcfkaaGreatDoorJ13
import Derived.Deep.Onto
import Derived.Laws.AppendOwnNone
/- Of a claim's texts, joined: Pag. No statement but in the last. -/
namespace Go.Proofs.YtogcbmhcddcfkaaGreatDoor
open Go.RowKit
set_option linter.unusedVariables false

def PBx (w : World) (base P : Nat) (vn vu vq vg : Value) (c : Cf) : Prop :=
  Has w P 53 #[vn, vu, vq, vg] ∧ base ≤ P ∧ w.ownsRow base 9 1 vn c.names.length (c.names.map strV) ∧ w.ownsRow base 40 1 vu c.up.length (c.up.map u64V) ∧
    w.ownsRow base 3 1 vq c.quotas.length (c.quotas.map (Value.int .i64)) ∧ w.ownsRow base 48 3 vg c.grants.length (cellsG c.grants)
def PB (w : World) (base P : Nat) (c : Cf) : Prop := ∃ vn vu vq vg, PBx w base P vn vu vq vg c
theorem own_bel {w w' : World} {b : Nat} {e : TypeId} {s n : Nat} {v : Value} {xs : List Value} (h : w.ownsRow b e s v n xs) (hb : Below w.heap.size w w') : w'.ownsRow b e s v n xs := by
  refine ⟨h.1, ?_⟩
  rcases h.2 with hn | ⟨g, cap, cur, rfl, hg, hh, hr⟩
  · exact .inl hn
  · refine .inr ⟨g, cap, cur, rfl, hg, ?_, hr⟩
    rw [hb.block g (Array.getElem?_eq_some_iff.1 hh).1]
    exact hh
theorem PBx.below {w w' : World} {base P : Nat} {vn vu vq vg : Value} {c : Cf} (h : PBx w base P vn vu vq vg c) (hb : Below w.heap.size w w') : PBx w' base P vn vu vq vg c := by
  obtain ⟨h1, h2, h3, h4, h5, h6⟩ := h
  exact ⟨h1.below hb h1.lt, h2, own_bel h3 hb, own_bel h4 hb, own_bel h5 hb, own_bel h6 hb⟩
theorem PB.below {w w' : World} {base P : Nat} {c : Cf} (h : PB w base P c) (hb : Below w.heap.size w w') : PB w' base P c := by
  obtain ⟨vn, vu, vq, vg, h⟩ := h
  exact ⟨vn, vu, vq, vg, h.below hb⟩
theorem own_sep {w : World} {b b' : Nat} {e e' : TypeId} {s s' n n' : Nat} {v v' : Value} {xs ys : List Value} (h : w.ownsRow b e s v n xs) (k : w.ownsRow b' e' s' v' n' ys) (hne : e ≠ e') : v.ownBlock = none ∨ v.ownBlock ≠ v'.ownBlock := by
  rcases h.2 with ⟨rfl, _⟩ | ⟨g, cap, cur, rfl, _, hg, _⟩
  · exact .inl rfl
  · right
    rcases k.2 with ⟨rfl, _⟩ | ⟨g', cap', cur', rfl, _, hg', _⟩
    · simp [Value.ownBlock]
    · simp only [Value.ownBlock, ne_eq, Option.some.injEq]
      exact Has.apart (w := w) (g := g) (t := e) (cs := cur) hg hg' hne
theorem own_off {w : World} {b Q : Nat} {e t : TypeId} {s n : Nat} {v : Value} {xs : List Value} {cs : Array Value} (h : w.ownsRow b e s v n xs) (hQ : Has w Q t cs) (hne : e ≠ t) : v.ownBlock ≠ some Q := by
  rcases h.2 with ⟨rfl, _⟩ | ⟨g, cap, cur, rfl, _, hg, _⟩
  · simp [Value.ownBlock]
  · simp only [Value.ownBlock, ne_eq, Option.some.injEq]
    exact Has.apart (w := w) (g := g) (t := e) (cs := cur) hg hQ hne
theorem has_grown {w w' : World} {b Q : Nat} {e t : TypeId} {s n : Nat} {v : Value} {xs : List Value} {cs : Array Value} (hQ : Has w Q t cs) (h : w.ownsRow b e s v n xs) (hg : w.grownBy w' v.ownBlock) (hne : e ≠ t) : Has w' Q t cs :=
  hQ.grown hg (fun e => own_off h hQ hne e.symm)
theorem own_store {w : World} {b P : Nat} {e t : TypeId} {s n : Nat} {v : Value} {xs : List Value} {cs : Array Value} (h : w.ownsRow b e s v n xs) (hP : Has w P t cs) (hne : e ≠ t) (i : Nat) (u : Value) : (w.setCell ⟨P, i, none⟩ u).ownsRow b e s v n xs :=
  h.kept (only_store (only_refl w P) i u) (.inr (own_off h hP hne))
theorem argT_own {w : World} {B n : Nat} {v : Value} {l : List (List UInt8)} (h : w.ownsRow B 9 1 v n (l.map strV)) (hn : n = l.length) : ∃ A c, v = .slice A n c ∧ ArgT w A n c l := by
  rcases h.2 with ⟨rfl, rfl⟩ | ⟨g, cap, cur, rfl, hB, hg, h1, h2, _, hcur⟩
  · have : l = [] := List.eq_nil_of_length_eq_zero hn.symm
    subst this
    exact ⟨none, 0, rfl, rfl, fun hx => absurd hx (by simp), fun hx => absurd hx (by omega), Nat.le_refl _, Nat.zero_le _⟩
  · refine ⟨_, cap, rfl, hn, fun _ => ⟨g, 0, rfl, fun j u hj => ?_⟩, fun _ a ha => by injection ha with ha; subst ha; exact (Array.getElem?_eq_some_iff.1 hg).1, h1, h2⟩
    rw [Has.cell (w := w) (g := g) (t := 9) (cs := cur) hg]
    rw [← hcur, List.getElem?_take] at hj
    split at hj
    · simpa using hj
    · cases hj
theorem argGo {w : World} {B n : Nat} {v : Value} {l : List G} (h : w.ownsRow B 48 3 v n (cellsG l)) (hn : n = l.length) : (v = .slice none 0 0 ∧ l = []) ∨ ∃ g c, v = .slice (some ⟨g, 0, none⟩) n c ∧ ArgG w (some ⟨g, 0, none⟩) n c l := by
  rcases h.2 with ⟨rfl, rfl⟩ | ⟨g, cap, cur, rfl, hB, hg, h1, h2, _, hcur⟩
  · exact .inl ⟨rfl, List.eq_nil_of_length_eq_zero hn.symm⟩
  · refine .inr ⟨g, cap, rfl, hn, fun _ => ⟨g, 0, rfl, fun j u hj => ?_⟩, fun _ a ha => by injection ha with ha; subst ha; exact (Array.getElem?_eq_some_iff.1 hg).1, h1, h2⟩
    rw [Has.cell (w := w) (g := g) (t := 48) (cs := cur) hg]
    rw [← hcur, List.getElem?_take] at hj
    split at hj
    · simpa using hj
    · cases hj
theorem ginfo5 : (Tryz.prog.info? 48).map (fun i => (i.zero, i.size, i.bytes)) = some (some (.agg #[.int .i64 0, .int .i64 0, .int .i64 0]), 3, 24) := by kernel_rfl
theorem one_gcell (l : List G) : ∀ u ∈ cellsG l, u.oneCell' = true := by
  intro u hu
  obtain ⟨g, _, hg⟩ := List.mem_flatMap.1 hu
  simp [gC] at hg
  rcases hg with rfl | rfl | rfl <;> rfl
theorem insG_at {l : List G} {g : G} {k : Nat} (hg : ¬ g ∈ l) (hk : k ≤ l.length) (hj : ∀ j (h : j < l.length), j < k → lessG l[j] g = true) (he : ∀ h : k < l.length, lessG l[k] g = false) : insG l g = l.take k ++ [g] ++ l.drop k := by
  unfold insG
  rw [if_neg hg]
  have h1 : ∀ (l : List G) (k : Nat), k ≤ l.length → (∀ j (h : j < l.length), j < k → lessG l[j] g = true) → (∀ h : k < l.length, lessG l[k] g = false) → l.takeWhile (fun x => lessG x g) = l.take k ∧ l.dropWhile (fun x => lessG x g) = l.drop k := by
    intro l
    induction l with
    | nil => intro k _ _ _; simp
    | cons x l ih =>
      intro k hk hj he
      cases k with
      | zero =>
        have := he (by simp)
        simp only [List.getElem_cons_zero] at this
        simp [this]
      | succ k =>
        have hx : lessG x g = true := by
          have := hj 0 (by simp) (by omega)
          simpa using this
        have := ih k (by simpa using hk) (fun j h hjk => by have := hj (j + 1) (by simp; omega) (by omega); simpa using this) (fun h => by have := he (by simp; omega); simpa using this)
        simp [hx, this.1, this.2]
  obtain ⟨e1, e2⟩ := h1 l k hk hj he
  rw [e1, e2]
  simp
theorem cells3_new5 (w : World) (a f t : Value) (ty : TypeId) : ∀ (j : Nat) (u : Value), ([a, f, t] : List Value)[j]? = some u → (w.alloc (.cells #[a, f, t] ty)).cell? ((⟨w.heap.size, 0, none⟩ : Addr).add j) = some u := by
  intro j u hj
  rw [add_plain, (Has.made w ty #[a, f, t]).cell]
  simpa using hj
theorem below_own5 {B : Nat} {w0 w w' : World} {e : TypeId} {s n : Nat} {v : Value} {xs : List Value} (h : Below B w0 w) (hg : w.grownBy w' v.ownBlock) (ho : w.ownsRow B e s v n xs) (hB : B ≤ w.heap.size) : Below B w0 w' :=
  h.grown hg hB (fun k hk => (ho.lt k hk).1)
theorem PBx.grants {w : World} {base P : Nat} {vn vu vq vg v : Value} {c : Cf} {l : List G} (h : PBx w base P vn vu vq vg c) (ho : w.ownsRow base 48 3 v l.length (cellsG l)) :
    PBx (w.setCell ⟨P, 3, none⟩ v) base P vn vu vq v { c with grants := l } := by
  obtain ⟨h1, h2, h3, h4, h5, h6⟩ := h
  refine ⟨?_, h2, own_store h3 h1 (by decide) _ _, own_store h4 h1 (by decide) _ _, own_store h5 h1 (by decide) _ _, own_store ho h1 (by decide) _ _⟩
  have := h1.store 3 v
  simpa using this
theorem own_sl {w : World} {b : Nat} {e : TypeId} {s n : Nat} {v : Value} {xs : List Value} (h : w.ownsRow b e s v n xs) : ∃ A c, v = .slice A n c := by
  rcases h.2 with ⟨rfl, rfl⟩ | ⟨g, cap, cur, rfl, _⟩
  · exact ⟨none, 0, rfl⟩
  · exact ⟨_, _, rfl⟩
theorem PBx.upset {w : World} {base P ug cap a : Nat} {vn vq vg : Value} {c : Cf} (h : PBx w base P vn (.slice (some ⟨ug, 0, none⟩) c.up.length cap) vq vg c) (v : Nat) :
    PBx (w.setCell ⟨ug, a, none⟩ (.int .u64 (v : Int))) base P vn (.slice (some ⟨ug, 0, none⟩) c.up.length cap) vq vg { c with up := c.up.set a v } := by
  obtain ⟨h1, h2, h3, h4, h5, h6⟩ := h
  have hu : ∃ cs, Has w ug 40 cs := by
    rcases h4.2 with ⟨e, _⟩ | ⟨g', cap', cur, e, _, hg, _⟩
    · cases e
    · injection e with e _ _
      injection e with e
      injection e with e
      subst e
      exact ⟨cur, hg⟩
  obtain ⟨cs, hu⟩ := hu
  refine ⟨h1.away (h1.apart hu (by decide)) _, h2, own_store h3 hu (by decide) _ _, ?_, own_store h5 hu (by decide) _ _, own_store h6 hu (by decide) _ _⟩
  have := (h4.stored a (.int .u64 (v : Int))).1
  have e : (c.up.map u64V).set a (.int .u64 (v : Int)) = (c.up.set a v).map u64V := by rw [List.map_set]; rfl
  rw [e] at this
  simpa using this
theorem insG_in {l : List G} {g : G} (h : g ∈ l) : insG l g = l := by unfold insG; rw [if_pos h]

def GrantEnd (base P : Nat) (c : Cf) (w : World) (e : Ending) (w' : World) : Prop := e = .returned (.tuple #[]) ∧ PB w' base P c ∧ Below base w w' ∧ w.grownBy w' (some P)
set_option maxRecDepth 100000 in
set_option maxHeartbeats 4000000 in
theorem r5grant_any (c : Cf) (g : G) (base P : Nat) (w : World) (h : PB w base P c) (hm : c.grants.length ≤ 1000000) (hbw : base ≤ w.heap.size) :
    Calls Tryz.prog 64 #[.pointer (some ⟨P, 0, none⟩), gV g] w (GrantEnd base P { c with grants := insG c.grants g } w) := by
  obtain ⟨vn, vu, vq, vg, hx⟩ := h
  obtain ⟨W, hW⟩ : ∃ W, w.alloc (.cells #[.int .i64 g.a, .int .i64 g.f, .int .i64 g.t] 48) = W := ⟨_, rfl⟩
  have hB0 : Below w.heap.size w W := hW ▸ (Below.refl _ w).alloc (Nat.le_refl _) _
  have hG0 : Has W w.heap.size 48 #[.int .i64 g.a, .int .i64 g.f, .int .i64 g.t] := hW ▸ Has.made w 48 _
  have hX0 := hx.below hB0
  have HB0 := Lib.hid hB0
  have HX0 := Lib.hid hX0
  have HG0 := Lib.hid hG0
  have HBb := Lib.hid (hB0.mono hbw)
  have HbW : Hid (base ≤ W.heap.size) := Lib.hid (Nat.le_trans hbw hB0.size)
  clear hx hG0
  have HGC := Lib.hid (fun W' (hb : Below W.heap.size W W') => (two_boxes HG0.out HG0.out hb).1)
  have HPC := Lib.hid (fun W' (hb : Below W.heap.size W W') => show W'.cell? ⟨P, 3, none⟩ = some vg by
    have k := (HX0.out.below hb).1
    rw [k.cell]
    simp)
  have hmx : Tryz.prog.follows .mixedOrders = true := by kernel_rfl
  obtain ⟨j0, hj, jz0, jz1, jz2⟩ := info_parts ginfo5
  have hgo := argGo HX0.out.2.2.2.2.2 rfl
  have BD : Below W.heap.size W W.drew := (Below.refl _ _).drew
  unfold gV
  rcases hgo with ⟨rfl, hnil⟩ | ⟨q, cap, rfl, hag⟩
  · have HNil := Lib.hid hnil
    clear hnil
    have HMay := Lib.hid (fun w1 (h1 : Below W.heap.size W w1) => r4May_any none 0 0 [] g w1 ⟨rfl, fun h => absurd h (by simp [cellsG]), fun h => absurd h (by omega), Nat.le_refl _, by unfold maxLen; omega⟩ (by omega))
    unfold gV at HMay
    have hmay : mayG [] g = false := rfl
    rw [hmay] at HMay
    have hl0 : c.grants.length = 0 := by rw [HNil.out]; rfl
    have hS : (fun w' : World => w'.cell? ⟨P, 3, none⟩ = some (.slice none 0 0) ∧ w'.cell? ⟨w.heap.size, 0, none⟩ = some (.int .i64 g.a) ∧ w'.cell? ⟨w.heap.size, 1, none⟩ = some (.int .i64 g.f) ∧ w'.cell? ⟨w.heap.size, 2, none⟩ = some (.int .i64 g.t)) W.drew := ⟨HPC.out _ BD, HGC.out _ BD⟩
    have HRes : Hid (insG c.grants g = [g]) := Lib.hid (by rw [HNil.out]; simp [insG])
    clear hmay
    go_enter Tryz.func64, Tryz.ntmps64
    go_wp2
    try rw [hW]
    go_region_held (fun w' : World => w'.cell? ⟨P, 3, none⟩ = some (.slice none 0 0) ∧ w'.cell? ⟨w.heap.size, 0, none⟩ = some (.int .i64 g.a) ∧ w'.cell? ⟨w.heap.size, 1, none⟩ = some (.int .i64 g.f) ∧ w'.cell? ⟨w.heap.size, 2, none⟩ = some (.int .i64 g.t)) (first | exact hS | assumption) (first
      | (go_at_call 107; (with_reducible refine (HMay.out _ BD).mono ?_); rintro e w1 ⟨rfl, h1⟩; have B1 := Lib.hid (below_step BD h1); clear hS; have hS := And.intro (HPC.out _ B1.out) (HGC.out _ B1.out); clear h1))
    go_wp2
    go_loopw [5] (fun i wr => i = .int .i64 0 ∧ Below W.heap.size W wr) (fun _ _ => 0)
    case atStart => exact ⟨rfl, B1.out⟩
    case round =>
      obtain ⟨rfl, hB⟩ := hrel
      have BW := Lib.hid hB
      clear hB hS
      have BD2 : Below wr.heap.size wr wr.drew := (Below.refl _ _).drew
      go_wp2
      rename_i K hK
      have hS : (fun w' : World => w'.cell? ⟨P, 3, none⟩ = some (.slice none 0 0) ∧ w'.cell? ⟨w.heap.size, 0, none⟩ = some (.int .i64 g.a) ∧ w'.cell? ⟨w.heap.size, 1, none⟩ = some (.int .i64 g.f) ∧ w'.cell? ⟨w.heap.size, 2, none⟩ = some (.int .i64 g.t)) wr.drew := ⟨HPC.out _ (below_step BW.out BD2), HGC.out _ (below_step BW.out BD2)⟩
      refine wp_held (fun w' : World => w'.cell? ⟨P, 3, none⟩ = some (.slice none 0 0) ∧ w'.cell? ⟨w.heap.size, 0, none⟩ = some (.int .i64 g.a) ∧ w'.cell? ⟨w.heap.size, 1, none⟩ = some (.int .i64 g.f) ∧ w'.cell? ⟨w.heap.size, 2, none⟩ = some (.int .i64 g.t)) K hmx ?_ (fun _ _ h => h)
      refine wpAnyH_take (i := 0) (v := .int .i64 0) rfl (by kernel_rfl) (by kernel_rfl) (by kernel_rfl) (fun _ _ _ h => h) (Or.inl ⟨by rfl, ?_⟩) hS ?_
      · rintro w6 ⟨b1, b2, b3, b4⟩
        go_simp
      simp only [Act.put, List.setIfInBounds_toArray, List.set_cons_zero, List.set_cons_succ, List.getElem_toArray, List.getElem_cons_zero]
      refine wpAnyH_take (i := 1) (v := .pointer (some ⟨P, 0, none⟩)) rfl (by kernel_rfl) (by kernel_rfl) (by kernel_rfl) (fun _ _ _ h => h) (Or.inl ⟨by rfl, ?_⟩) hS ?_
      · rintro w6 ⟨b1, b2, b3, b4⟩
        go_simp
      simp only [Act.put, List.setIfInBounds_toArray, List.set_cons_zero, List.set_cons_succ, List.getElem_toArray, List.getElem_cons_zero, List.getElem_cons_succ]
      refine wpAnyH_take (i := 2) (v := .pointer (some ⟨P, 0, none⟩)) rfl (by kernel_rfl) (by kernel_rfl) (by kernel_rfl) (fun _ _ _ h => h) (Or.inl ⟨by rfl, ?_⟩) hS ?_
      · rintro w6 ⟨b1, b2, b3, b4⟩
        go_simp
      simp only [Act.put, List.setIfInBounds_toArray, List.set_cons_zero, List.set_cons_succ, List.getElem_toArray, List.getElem_cons_zero, List.getElem_cons_succ]
      refine wpAnyH_take (i := 3) (v := .pointer (some ⟨P, 0, none⟩)) rfl (by kernel_rfl) (by kernel_rfl) (by kernel_rfl) (fun _ _ _ h => h) (Or.inl ⟨by rfl, ?_⟩) hS ?_
      · rintro w6 ⟨b1, b2, b3, b4⟩
        go_simp
      simp only [Act.put, List.setIfInBounds_toArray, List.set_cons_zero, List.set_cons_succ, List.getElem_toArray, List.getElem_cons_zero, List.getElem_cons_succ]
      refine wpAnyH_take (i := 4) (v := .pointer (some ⟨P, 3, none⟩)) rfl (by kernel_rfl) (by kernel_rfl) (by kernel_rfl) (fun _ _ _ h => h) (Or.inl ⟨by rfl, ?_⟩) hS ?_
      · rintro w6 ⟨b1, b2, b3, b4⟩
        go_simp
      simp only [Act.put, List.setIfInBounds_toArray, List.set_cons_zero, List.set_cons_succ, List.getElem_toArray, List.getElem_cons_zero, List.getElem_cons_succ]
      refine wpAnyH_take (i := 5) (v := .slice none 0 0) rfl (by kernel_rfl) (by kernel_rfl) (by kernel_rfl) (fun _ _ _ h => h) (Or.inl ⟨by rfl, ?_⟩) hS ?_
      · rintro w6 ⟨b1, b2, b3, b4⟩
        go_simp
      simp only [Act.put, List.setIfInBounds_toArray, List.set_cons_zero, List.set_cons_succ, List.getElem_toArray, List.getElem_cons_zero, List.getElem_cons_succ]
      refine wpAnyH_take (i := 6) (v := .int .i64 0) rfl (by kernel_rfl) (by kernel_rfl) (by kernel_rfl) (fun _ _ _ h => h) (Or.inl ⟨by rfl, ?_⟩) hS ?_
      · rintro w6 ⟨b1, b2, b3, b4⟩
        go_simp
      simp only [Act.put, List.setIfInBounds_toArray, List.set_cons_zero, List.set_cons_succ, List.getElem_toArray, List.getElem_cons_zero, List.getElem_cons_succ]
      refine wpAnyH_take (i := 7) (v := .bool false) rfl (by kernel_rfl) (by kernel_rfl) (by kernel_rfl) (fun _ _ _ h => h) (Or.inl ⟨by rfl, ?_⟩) hS ?_
      · rintro w6 ⟨b1, b2, b3, b4⟩
        go_simp
      simp only [Act.put, List.setIfInBounds_toArray, List.set_cons_zero, List.set_cons_succ, List.getElem_toArray, List.getElem_cons_zero, List.getElem_cons_succ]
      refine wpAnyH_take (i := 8) (v := .bool false) rfl (by kernel_rfl) (by kernel_rfl) (by kernel_rfl) (fun _ _ _ h => h) (Or.inl ⟨by rfl, ?_⟩) hS ?_
      · rintro w6 ⟨b1, b2, b3, b4⟩
        go_simp
      simp only [Act.put, List.setIfInBounds_toArray, List.set_cons_zero, List.set_cons_succ, List.getElem_toArray, List.getElem_cons_zero, List.getElem_cons_succ]
      refine wpAnyH_take (i := 9) (v := undef) rfl (by kernel_rfl) (by kernel_rfl) (by kernel_rfl) (fun _ _ _ h => h) (Or.inr ⟨by rfl, rfl⟩) hS ?_
      simp only [Act.put, List.setIfInBounds_toArray, List.set_cons_zero, List.set_cons_succ, List.getElem_toArray, List.getElem_cons_zero, List.getElem_cons_succ]
      refine wpAnyH_take (i := 10) (v := undef) rfl (by kernel_rfl) (by kernel_rfl) (by kernel_rfl) (fun _ _ _ h => h) (Or.inr ⟨by rfl, rfl⟩) hS ?_
      simp only [Act.put, List.setIfInBounds_toArray, List.set_cons_zero, List.set_cons_succ, List.getElem_toArray, List.getElem_cons_zero, List.getElem_cons_succ]
      refine wpAnyH_take (i := 11) (v := undef) rfl (by kernel_rfl) (by kernel_rfl) (by kernel_rfl) (fun _ _ _ h => h) (Or.inr ⟨by rfl, rfl⟩) hS ?_
      simp only [Act.put, List.setIfInBounds_toArray, List.set_cons_zero, List.set_cons_succ, List.getElem_toArray, List.getElem_cons_zero, List.getElem_cons_succ]
      refine wpAnyH_take (i := 12) (v := undef) rfl (by kernel_rfl) (by kernel_rfl) (by kernel_rfl) (fun _ _ _ h => h) (Or.inr ⟨by rfl, rfl⟩) hS ?_
      simp only [Act.put, List.setIfInBounds_toArray, List.set_cons_zero, List.set_cons_succ, List.getElem_toArray, List.getElem_cons_zero, List.getElem_cons_succ]
      refine wpAnyH_take (i := 13) (v := undef) rfl (by kernel_rfl) (by kernel_rfl) (by kernel_rfl) (fun _ _ _ h => h) (Or.inr ⟨by rfl, rfl⟩) hS ?_
      simp only [Act.put, List.setIfInBounds_toArray, List.set_cons_zero, List.set_cons_succ, List.getElem_toArray, List.getElem_cons_zero, List.getElem_cons_succ]
      refine wpAnyH_take (i := 14) (v := undef) rfl (by kernel_rfl) (by kernel_rfl) (by kernel_rfl) (fun _ _ _ h => h) (Or.inr ⟨by rfl, rfl⟩) hS ?_
      simp only [Act.put, List.setIfInBounds_toArray, List.set_cons_zero, List.set_cons_succ, List.getElem_toArray, List.getElem_cons_zero, List.getElem_cons_succ]
      refine wpAnyH_take (i := 15) (v := undef) rfl (by kernel_rfl) (by kernel_rfl) (by kernel_rfl) (fun _ _ _ h => h) (Or.inr ⟨by rfl, rfl⟩) hS ?_
      simp only [Act.put, List.setIfInBounds_toArray, List.set_cons_zero, List.set_cons_succ, List.getElem_toArray, List.getElem_cons_zero, List.getElem_cons_succ]
      refine wpAnyH_take (i := 16) (v := undef) rfl (by kernel_rfl) (by kernel_rfl) (by kernel_rfl) (fun _ _ _ h => h) (Or.inr ⟨by rfl, rfl⟩) hS ?_
      simp only [Act.put, List.setIfInBounds_toArray, List.set_cons_zero, List.set_cons_succ, List.getElem_toArray, List.getElem_cons_zero, List.getElem_cons_succ]
      refine wpAnyH_take (i := 17) (v := undef) rfl (by kernel_rfl) (by kernel_rfl) (by kernel_rfl) (fun _ _ _ h => h) (Or.inr ⟨by rfl, rfl⟩) hS ?_
      simp only [Act.put, List.setIfInBounds_toArray, List.set_cons_zero, List.set_cons_succ, List.getElem_toArray, List.getElem_cons_zero, List.getElem_cons_succ]
      refine wpAnyH_take (i := 18) (v := undef) rfl (by kernel_rfl) (by kernel_rfl) (by kernel_rfl) (fun _ _ _ h => h) (Or.inr ⟨by rfl, rfl⟩) hS ?_
      simp only [Act.put, List.setIfInBounds_toArray, List.set_cons_zero, List.set_cons_succ, List.getElem_toArray, List.getElem_cons_zero, List.getElem_cons_succ]
      refine wpAnyH_take (i := 19) (v := .bool false) rfl (by kernel_rfl) (by kernel_rfl) (by kernel_rfl) (fun _ _ _ h => h) (Or.inl ⟨by rfl, ?_⟩) hS ?_
      · rintro w6 ⟨b1, b2, b3, b4⟩
        go_simp
      simp only [Act.put, List.setIfInBounds_toArray, List.set_cons_zero, List.set_cons_succ, List.getElem_toArray, List.getElem_cons_zero, List.getElem_cons_succ]
      refine wpAnyH_done (by kernel_rfl) ?_ _
      refine hK _ _ ?_
      have B2 := Lib.hid (below_step BW.out BD2)
      clear hS
      obtain ⟨b1, b2, b3, b4⟩ := And.intro (HPC.out _ B2.out) (HGC.out _ B2.out)
      go_wp2_with (first
        | (at_builtin; refine wpList_append_own_none rfl (.tmp 35) (.tmp 42) 26 rfl W.heap.size 48 j0 3 Tryz.underlying26 hj _ 0 [] rfl (World.ownsRow_nil _ _ _ _) rfl ?_)
        | (at_builtin; refine wpList_append_own _ rfl (.tmp 44) (.tmp 46) 26 rfl W.heap.size 48 j0 (.agg #[.int .i64 0, .int .i64 0, .int .i64 0]) 3 24 Tryz.underlying26 hj jz0 jz1 jz2 rfl (by decide) _ 0 [] rfl (World.ownsRow_nil _ _ _ _) ⟨wr.drew.heap.size, 0, none⟩ 1 1 [.int .i64 g.a, .int .i64 g.f, .int .i64 g.t] rfl rfl ?_ ?_ ?_ ?_ ?_ ?_; (exact cells3_new5 _ _ _ _ _); (intro u hu; simp at hu; rcases hu with rfl | rfl | rfl <;> rfl); (unfold maxLen; omega); (omega); (have hq : W.heap.size ≤ wr.heap.size := B2.out.size; simp; omega); intro v7 w7 h7 h8 h9; have B7 := Lib.hid ((B2.out.alloc B2.out.size (.cells #[.int .i64 g.a, .int .i64 g.f, .int .i64 g.t] 48)).grown h8 (by have hq : W.heap.size ≤ wr.heap.size := B2.out.size; simp; omega) (fun k e => by cases e)); rw [Nat.zero_add, List.nil_append] at h7; have O7 := Lib.hid h7; clear b1 b2 b3 b4; obtain ⟨b1, b2, b3, b4⟩ := And.intro (HPC.out _ B7.out) (HGC.out _ B7.out); clear h7 h8 h9)
        | (at_builtin; refine wpList_append_own_none rfl (.tmp 48) (.tmp 55) 26 rfl W.heap.size 48 j0 3 Tryz.underlying26 hj _ 1 _ rfl O7.out rfl ?_; have O8 : Hid (w7.ownsRow W.heap.size 48 3 v7 (insG c.grants g).length (cellsG (insG c.grants g))) := Lib.hid (by rw [HRes.out]; exact O7.out); obtain ⟨A8, c8, rfl⟩ := own_sl O7.out; have X8 := Lib.hid (HX0.out.below B7.out); have f1 := X8.out.1.free 3))
      (try simp only [Exit.inBlock, Exit.then])
      refine bodyPost_end (results_none rfl _ _ _) rfl ?_
      exact ⟨rfl, ⟨_, _, _, _, X8.out.grants (own_low O8.out HbW.out)⟩, HBb.out.trans ((B7.out.mono HbW.out).setCell (p := ⟨P, 3, none⟩) X8.out.2.1 _), only_store (only_of_below (below_step HB0.out B7.out) (Nat.le_refl _)) 3 _⟩
  · have HAG := Lib.hid hag
    clear hag
    obtain ⟨n, hn⟩ : ∃ n, c.grants.length = n := ⟨_, rfl⟩
    have HN := Lib.hid hn
    rw [hn] at hm HAG
    have HMay := Lib.hid (fun w1 (h1 : Below W.heap.size W w1) => r4May_any (some ⟨q, 0, none⟩) n cap c.grants g w1 (HAG.out.below h1) hm)
    unfold gV at HMay
    rw [hn] at HPC
    have hS : (fun w' : World => w'.cell? ⟨P, 3, none⟩ = some (.slice (some ⟨q, 0, none⟩) n cap) ∧ w'.cell? ⟨w.heap.size, 0, none⟩ = some (.int .i64 g.a) ∧ w'.cell? ⟨w.heap.size, 1, none⟩ = some (.int .i64 g.f) ∧ w'.cell? ⟨w.heap.size, 2, none⟩ = some (.int .i64 g.t)) W.drew := ⟨HPC.out _ BD, HGC.out _ BD⟩
    clear hn
    by_cases hmem : g ∈ c.grants
    · have hmay : mayG c.grants g = true := by unfold mayG; simpa using hmem
      rw [hmay] at HMay
      have HE := Lib.hid (insG_in hmem)
      clear hmem hmay
      go_enter Tryz.func64, Tryz.ntmps64
      go_wp2
      try rw [hW]
      go_region_held (fun w' : World => w'.cell? ⟨P, 3, none⟩ = some (.slice (some ⟨q, 0, none⟩) n cap) ∧ w'.cell? ⟨w.heap.size, 0, none⟩ = some (.int .i64 g.a) ∧ w'.cell? ⟨w.heap.size, 1, none⟩ = some (.int .i64 g.f) ∧ w'.cell? ⟨w.heap.size, 2, none⟩ = some (.int .i64 g.t)) (first | exact hS | assumption) (first
        | (go_at_call 107; (with_reducible refine (HMay.out _ BD).mono ?_); rintro e w1 ⟨rfl, h1⟩; have B1 := Lib.hid (below_step BD h1); clear hS; have hS := And.intro (HPC.out _ B1.out) (HGC.out _ B1.out); clear h1))
      all_goals
        go_wp2
        (try simp only [Exit.inBlock, Exit.then])
        refine bodyPost_ret (results_none rfl _ _ _) rfl ?_
        refine ⟨rfl, ?_, HBb.out.trans (B1.out.mono HbW.out), only_of_below (below_step HB0.out B1.out) (Nat.le_refl _)⟩
        rw [HE.out]
        exact PB.below ⟨_, _, _, _, HX0.out⟩ B1.out
    · have hmay : mayG c.grants g = false := by unfold mayG; simpa using hmem
      rw [hmay] at HMay
      have HIns := Lib.hid (fun k => insG_at (l := c.grants) (k := k) hmem)
      clear hmem hmay
      have hroom := HAG.out.room
      go_enter Tryz.func64, Tryz.ntmps64
      go_wp2
      try rw [hW]
      go_region_held (fun w' : World => w'.cell? ⟨P, 3, none⟩ = some (.slice (some ⟨q, 0, none⟩) n cap) ∧ w'.cell? ⟨w.heap.size, 0, none⟩ = some (.int .i64 g.a) ∧ w'.cell? ⟨w.heap.size, 1, none⟩ = some (.int .i64 g.f) ∧ w'.cell? ⟨w.heap.size, 2, none⟩ = some (.int .i64 g.t)) (first | exact hS | assumption) (first
        | (go_at_call 107; (with_reducible refine (HMay.out _ BD).mono ?_); rintro e w1 ⟨rfl, h1⟩; have B1 := Lib.hid (below_step BD h1); clear hS; have hS := And.intro (HPC.out _ B1.out) (HGC.out _ B1.out); clear h1))
      go_wp2
      go_loopw [5] (fun i wr => ∃ k : Nat, k ≤ n ∧ i = .int .i64 k ∧ (∀ j (h : j < c.grants.length), j < k → lessG c.grants[j] g = true) ∧ Below W.heap.size W wr) (fun i _ => n - (intOf i).toNat)
      case atStart => exact ⟨0, Nat.zero_le _, rfl, fun j _ h => absurd h (by omega), B1.out⟩
      case round =>
        obtain ⟨k, hk, rfl, hj2, hB⟩ := hrel
        have HJ := Lib.hid hj2
        have BW := Lib.hid hB
        clear hj2 hB hS
        have BD2 : Below wr.heap.size wr wr.drew := (Below.refl _ _).drew
        by_cases hlt : k < n
        · have hkl : k < c.grants.length := by have := HN.out; omega
          have HSto := Lib.hid (fun (he : lessG c.grants[k] g = false) => HIns.out k (by omega) HJ.out (fun _ => he))
          have HYes : Hid (lessG c.grants[k] g = true → ∀ j (h : j < c.grants.length), j < k + 1 → lessG c.grants[j] g = true) := Lib.hid (fun h0 j h hj => by
            by_cases e2 : j = k
            · subst e2; exact h0
            · exact HJ.out j h (by omega))
          have HGt := Lib.hid (fun w1 (h1 : Below W.heap.size W w1) => show w1.cell? ⟨q, k * 3, none⟩ = some (.int .i64 c.grants[k].a) ∧ w1.cell? ⟨q, k * 3 + 1, none⟩ = some (.int .i64 c.grants[k].f) ∧ w1.cell? ⟨q, k * 3 + 2, none⟩ = some (.int .i64 c.grants[k].t) by
            obtain ⟨b2, off2, hA2, h2⟩ := (HAG.out.below h1).reads.gat hkl
            injection hA2 with hA2
            injection hA2 with q5 q6
            subst q5 q6
            simpa using h2)
          have HLs := Lib.hid (fun w1 => r4Less_any c.grants[k] g w1)
          unfold gV at HLs
          generalize c.grants[k] = y at HSto HYes HGt HLs
          clear hkl
          have i0 : (0 : Int) ≤ (k : Int) := by omega
          have i1 : (k : Int) < (n : Int) := by omega
          go_wp2
          rename_i K hK
          obtain ⟨z, hz⟩ : ∃ z, lessG y g = z := ⟨_, rfl⟩
          rw [hz] at HSto HYes HLs
          have hS : (fun w' : World => (w'.cell? ⟨P, 3, none⟩ = some (.slice (some ⟨q, 0, none⟩) n cap) ∧ w'.cell? ⟨w.heap.size, 0, none⟩ = some (.int .i64 g.a) ∧ w'.cell? ⟨w.heap.size, 1, none⟩ = some (.int .i64 g.f) ∧ w'.cell? ⟨w.heap.size, 2, none⟩ = some (.int .i64 g.t)) ∧ w'.cell? ⟨q, k * 3, none⟩ = some (.int .i64 y.a) ∧ w'.cell? ⟨q, k * 3 + 1, none⟩ = some (.int .i64 y.f) ∧ w'.cell? ⟨q, k * 3 + 2, none⟩ = some (.int .i64 y.t)) wr.drew := ⟨⟨HPC.out _ (below_step BW.out BD2), HGC.out _ (below_step BW.out BD2)⟩, HGt.out _ (below_step BW.out BD2)⟩
          refine wp_held (fun w' : World => (w'.cell? ⟨P, 3, none⟩ = some (.slice (some ⟨q, 0, none⟩) n cap) ∧ w'.cell? ⟨w.heap.size, 0, none⟩ = some (.int .i64 g.a) ∧ w'.cell? ⟨w.heap.size, 1, none⟩ = some (.int .i64 g.f) ∧ w'.cell? ⟨w.heap.size, 2, none⟩ = some (.int .i64 g.t)) ∧ w'.cell? ⟨q, k * 3, none⟩ = some (.int .i64 y.a) ∧ w'.cell? ⟨q, k * 3 + 1, none⟩ = some (.int .i64 y.f) ∧ w'.cell? ⟨q, k * 3 + 2, none⟩ = some (.int .i64 y.t)) K hmx ?_ (fun _ _ h => h)
          clear hz
          refine wpAnyH_take (i := 0) (v := .int .i64 (k : Int)) rfl (by kernel_rfl) (by kernel_rfl) (by kernel_rfl) (fun _ _ _ h => h) (Or.inl ⟨by rfl, ?_⟩) hS ?_
          · rintro w6 ⟨⟨b1, b2, b3, b4⟩, c1, c2, c3⟩
            go_simp
          simp only [Act.put, List.setIfInBounds_toArray, List.set_cons_zero, List.set_cons_succ, List.getElem_toArray, List.getElem_cons_zero]
          refine wpAnyH_take (i := 1) (v := .pointer (some ⟨P, 0, none⟩)) rfl (by kernel_rfl) (by kernel_rfl) (by kernel_rfl) (fun _ _ _ h => h) (Or.inl ⟨by rfl, ?_⟩) hS ?_
          · rintro w6 ⟨⟨b1, b2, b3, b4⟩, c1, c2, c3⟩
            go_simp
          simp only [Act.put, List.setIfInBounds_toArray, List.set_cons_zero, List.set_cons_succ, List.getElem_toArray, List.getElem_cons_zero, List.getElem_cons_succ]
          refine wpAnyH_take (i := 2) (v := .pointer (some ⟨P, 0, none⟩)) rfl (by kernel_rfl) (by kernel_rfl) (by kernel_rfl) (fun _ _ _ h => h) (Or.inl ⟨by rfl, ?_⟩) hS ?_
          · rintro w6 ⟨⟨b1, b2, b3, b4⟩, c1, c2, c3⟩
            go_simp
          simp only [Act.put, List.setIfInBounds_toArray, List.set_cons_zero, List.set_cons_succ, List.getElem_toArray, List.getElem_cons_zero, List.getElem_cons_succ]
          refine wpAnyH_take (i := 3) (v := .pointer (some ⟨P, 0, none⟩)) rfl (by kernel_rfl) (by kernel_rfl) (by kernel_rfl) (fun _ _ _ h => h) (Or.inl ⟨by rfl, ?_⟩) hS ?_
          · rintro w6 ⟨⟨b1, b2, b3, b4⟩, c1, c2, c3⟩
            go_simp
          simp only [Act.put, List.setIfInBounds_toArray, List.set_cons_zero, List.set_cons_succ, List.getElem_toArray, List.getElem_cons_zero, List.getElem_cons_succ]
          refine wpAnyH_take (i := 4) (v := .pointer (some ⟨P, 3, none⟩)) rfl (by kernel_rfl) (by kernel_rfl) (by kernel_rfl) (fun _ _ _ h => h) (Or.inl ⟨by rfl, ?_⟩) hS ?_
          · rintro w6 ⟨⟨b1, b2, b3, b4⟩, c1, c2, c3⟩
            go_simp
          simp only [Act.put, List.setIfInBounds_toArray, List.set_cons_zero, List.set_cons_succ, List.getElem_toArray, List.getElem_cons_zero, List.getElem_cons_succ]
          refine wpAnyH_take (i := 5) (v := .slice (some ⟨q, 0, none⟩) n cap) rfl (by kernel_rfl) (by kernel_rfl) (by kernel_rfl) (fun _ _ _ h => h) (Or.inl ⟨by rfl, ?_⟩) hS ?_
          · rintro w6 ⟨⟨b1, b2, b3, b4⟩, c1, c2, c3⟩
            go_simp
          simp only [Act.put, List.setIfInBounds_toArray, List.set_cons_zero, List.set_cons_succ, List.getElem_toArray, List.getElem_cons_zero, List.getElem_cons_succ]
          refine wpAnyH_take (i := 6) (v := .int .i64 (n : Int)) rfl (by kernel_rfl) (by kernel_rfl) (by kernel_rfl) (fun _ _ _ h => h) (Or.inl ⟨by rfl, ?_⟩) hS ?_
          · rintro w6 ⟨⟨b1, b2, b3, b4⟩, c1, c2, c3⟩
            go_simp
          simp only [Act.put, List.setIfInBounds_toArray, List.set_cons_zero, List.set_cons_succ, List.getElem_toArray, List.getElem_cons_zero, List.getElem_cons_succ]
          refine wpAnyH_take (i := 7) (v := .bool true) rfl (by kernel_rfl) (by kernel_rfl) (by kernel_rfl) (fun _ _ _ h => h) (Or.inl ⟨by rfl, ?_⟩) hS ?_
          · rintro w6 ⟨⟨b1, b2, b3, b4⟩, c1, c2, c3⟩
            go_simp
          simp only [Act.put, List.setIfInBounds_toArray, List.set_cons_zero, List.set_cons_succ, List.getElem_toArray, List.getElem_cons_zero, List.getElem_cons_succ]
          refine wpAnyH_take (i := 8) (v := .bool true) rfl (by kernel_rfl) (by kernel_rfl) (by kernel_rfl) (fun _ _ _ h => h) (Or.inl ⟨by rfl, ?_⟩) hS ?_
          · rintro w6 ⟨⟨b1, b2, b3, b4⟩, c1, c2, c3⟩
            go_simp
          simp only [Act.put, List.setIfInBounds_toArray, List.set_cons_zero, List.set_cons_succ, List.getElem_toArray, List.getElem_cons_zero, List.getElem_cons_succ]
          refine wpAnyH_take (i := 9) (v := .pointer (some ⟨P, 0, none⟩)) rfl (by kernel_rfl) (by kernel_rfl) (by kernel_rfl) (fun _ _ _ h => h) (Or.inl ⟨by rfl, ?_⟩) hS ?_
          · rintro w6 ⟨⟨b1, b2, b3, b4⟩, c1, c2, c3⟩
            go_simp
          simp only [Act.put, List.setIfInBounds_toArray, List.set_cons_zero, List.set_cons_succ, List.getElem_toArray, List.getElem_cons_zero, List.getElem_cons_succ]
          refine wpAnyH_take (i := 10) (v := .pointer (some ⟨P, 0, none⟩)) rfl (by kernel_rfl) (by kernel_rfl) (by kernel_rfl) (fun _ _ _ h => h) (Or.inl ⟨by rfl, ?_⟩) hS ?_
          · rintro w6 ⟨⟨b1, b2, b3, b4⟩, c1, c2, c3⟩
            go_simp
          simp only [Act.put, List.setIfInBounds_toArray, List.set_cons_zero, List.set_cons_succ, List.getElem_toArray, List.getElem_cons_zero, List.getElem_cons_succ]
          refine wpAnyH_take (i := 11) (v := .pointer (some ⟨P, 0, none⟩)) rfl (by kernel_rfl) (by kernel_rfl) (by kernel_rfl) (fun _ _ _ h => h) (Or.inl ⟨by rfl, ?_⟩) hS ?_
          · rintro w6 ⟨⟨b1, b2, b3, b4⟩, c1, c2, c3⟩
            go_simp
          simp only [Act.put, List.setIfInBounds_toArray, List.set_cons_zero, List.set_cons_succ, List.getElem_toArray, List.getElem_cons_zero, List.getElem_cons_succ]
          refine wpAnyH_take (i := 12) (v := .pointer (some ⟨P, 3, none⟩)) rfl (by kernel_rfl) (by kernel_rfl) (by kernel_rfl) (fun _ _ _ h => h) (Or.inl ⟨by rfl, ?_⟩) hS ?_
          · rintro w6 ⟨⟨b1, b2, b3, b4⟩, c1, c2, c3⟩
            go_simp
          simp only [Act.put, List.setIfInBounds_toArray, List.set_cons_zero, List.set_cons_succ, List.getElem_toArray, List.getElem_cons_zero, List.getElem_cons_succ]
          refine wpAnyH_take (i := 13) (v := .slice (some ⟨q, 0, none⟩) n cap) rfl (by kernel_rfl) (by kernel_rfl) (by kernel_rfl) (fun _ _ _ h => h) (Or.inl ⟨by rfl, ?_⟩) hS ?_
          · rintro w6 ⟨⟨b1, b2, b3, b4⟩, c1, c2, c3⟩
            go_simp
          simp only [Act.put, List.setIfInBounds_toArray, List.set_cons_zero, List.set_cons_succ, List.getElem_toArray, List.getElem_cons_zero, List.getElem_cons_succ]
          refine wpAnyH_take (i := 14) (v := .int .i64 (k : Int)) rfl (by kernel_rfl) (by kernel_rfl) (by kernel_rfl) (fun _ _ _ h => h) (Or.inl ⟨by rfl, ?_⟩) hS ?_
          · rintro w6 ⟨⟨b1, b2, b3, b4⟩, c1, c2, c3⟩
            go_simp
          simp only [Act.put, List.setIfInBounds_toArray, List.set_cons_zero, List.set_cons_succ, List.getElem_toArray, List.getElem_cons_zero, List.getElem_cons_succ]
          refine wpAnyH_take (i := 15) (v := .pointer (some ⟨q, k * 3, none⟩)) rfl (by kernel_rfl) (by kernel_rfl) (by kernel_rfl) (fun _ _ _ h => h) (Or.inl ⟨by rfl, ?_⟩) hS ?_
          · rintro w6 ⟨⟨b1, b2, b3, b4⟩, c1, c2, c3⟩
            go_simp
          simp only [Act.put, List.setIfInBounds_toArray, List.set_cons_zero, List.set_cons_succ, List.getElem_toArray, List.getElem_cons_zero, List.getElem_cons_succ]
          refine wpAnyH_take (i := 16) (v := .agg #[.int .i64 y.a, .int .i64 y.f, .int .i64 y.t]) rfl (by kernel_rfl) (by kernel_rfl) (by kernel_rfl) (fun _ _ _ h => h) (Or.inl ⟨by rfl, ?_⟩) hS ?_
          · rintro w6 ⟨⟨b1, b2, b3, b4⟩, c1, c2, c3⟩
            go_simp
          simp only [Act.put, List.setIfInBounds_toArray, List.set_cons_zero, List.set_cons_succ, List.getElem_toArray, List.getElem_cons_zero, List.getElem_cons_succ]
          refine wpAnyH_take (i := 17) (v := .agg #[.int .i64 g.a, .int .i64 g.f, .int .i64 g.t]) rfl (by kernel_rfl) (by kernel_rfl) (by kernel_rfl) (fun _ _ _ h => h) (Or.inl ⟨by rfl, ?_⟩) hS ?_
          · rintro w6 ⟨⟨b1, b2, b3, b4⟩, c1, c2, c3⟩
            go_simp
          simp only [Act.put, List.setIfInBounds_toArray, List.set_cons_zero, List.set_cons_succ, List.getElem_toArray, List.getElem_cons_zero, List.getElem_cons_succ]
          refine wpAnyH_ready (rs := [18]) (by kernel_rfl) (by simp) ?_
          refine AllReadyH.cons rfl (fun K5 hK5 => ?_) AllReadyH.nil
          go_simp
          go_at_call 76
          refine (HLs.out _).mono ?_
          rintro e w2 ⟨rfl, h2⟩
          have B2 := Lib.hid (below_step (below_step BW.out BD2) h2)
          have hS2 : (fun w' : World => (w'.cell? ⟨P, 3, none⟩ = some (.slice (some ⟨q, 0, none⟩) n cap) ∧ w'.cell? ⟨w.heap.size, 0, none⟩ = some (.int .i64 g.a) ∧ w'.cell? ⟨w.heap.size, 1, none⟩ = some (.int .i64 g.f) ∧ w'.cell? ⟨w.heap.size, 2, none⟩ = some (.int .i64 g.t)) ∧ w'.cell? ⟨q, k * 3, none⟩ = some (.int .i64 y.a) ∧ w'.cell? ⟨q, k * 3 + 1, none⟩ = some (.int .i64 y.f) ∧ w'.cell? ⟨q, k * 3 + 2, none⟩ = some (.int .i64 y.t)) w2 := ⟨⟨HPC.out _ B2.out, HGC.out _ B2.out⟩, HGt.out _ B2.out⟩
          refine hK5.out _ _ hS2 (fun _ => ?_)
          clear hK5 K5
          refine wpAnyH_take (i := 19) (v := .bool z) rfl (by kernel_rfl) (by kernel_rfl) (by kernel_rfl) (fun _ _ _ h => h) (Or.inl ⟨by rfl, ?_⟩) hS2 ?_
          · rintro w6 ⟨⟨b1, b2, b3, b4⟩, c1, c2, c3⟩
            go_simp
          simp only [Act.put, List.setIfInBounds_toArray, List.set_cons_zero, List.set_cons_succ, List.getElem_toArray, List.getElem_cons_zero, List.getElem_cons_succ]
          refine wpAnyH_done (by kernel_rfl) ?_ _
          refine hK _ _ ?_
          cases z
          · have HE := Lib.hid (HSto.out rfl)
            clear HSto HYes HGt HLs hS hS2
            have HL1 : Hid ((cellsG (c.grants.take k)).length = k * 3) := Lib.hid (by rw [cellsG_len, List.length_take]; have := HN.out; omega)
            have HN1 := Lib.hid (fun w1 (h1 : Below W.heap.size W w1) => show ∀ (j : Nat) (u : Value), (cellsG (c.grants.take k))[j]? = some u → w1.cell? ((⟨q, 0, none⟩ : Addr).add j) = some u by
              intro j u hj
              obtain ⟨g5, o5, hA5, hc5⟩ := (HAG.out.below h1).reads (by have := (List.getElem?_eq_some_iff.1 hj).1; rw [cellsG_take, List.length_take] at this; omega)
              injection hA5 with hA5
              injection hA5 with q5 q6
              subst q5 q6
              rw [add_plain]
              refine hc5 j u ?_
              rw [cellsG_take, List.getElem?_take] at hj
              split at hj
              · exact hj
              · cases hj)
            have HL2 : Hid ((cellsG (c.grants.drop k)).length = (n - k) * 3) := Lib.hid (by rw [cellsG_len, List.length_drop]; have := HN.out; omega)
            have HN2 := Lib.hid (fun w1 (h1 : Below W.heap.size W w1) (x : Nat) (hx : x = k * 3 ∨ n = k) => show ∀ (j : Nat) (u : Value), (cellsG (c.grants.drop k))[j]? = some u → w1.cell? ((⟨q, x, none⟩ : Addr).add j) = some u by
              intro j u hj
              have hjl := (List.getElem?_eq_some_iff.1 hj).1
              rw [HL2.out] at hjl
              obtain ⟨g5, o5, hA5, hc5⟩ := (HAG.out.below h1).reads (by rw [cellsG_drop, List.getElem?_drop] at hj; have := (List.getElem?_eq_some_iff.1 hj).1; omega)
              injection hA5 with hA5
              injection hA5 with q5 q6
              subst q5 q6
              obtain rfl : x = k * 3 := by omega
              rw [add_plain, show k * 3 + j = 0 + (3 * k + j) by omega]
              refine hc5 _ u ?_
              rw [cellsG_drop, List.getElem?_drop] at hj
              exact hj)
            have s0 : (0 : Int) ≤ (k : Int) := by omega
            have s1 : (k : Int) ≤ (cap : Int) := by omega
            have s2 : (k : Int) ≤ (n : Int) := by omega
            obtain ⟨b1, b2, b3, b4⟩ := And.intro (HPC.out _ B2.out) (HGC.out _ B2.out)
            have HRes : Hid (insG c.grants g = c.grants.take k ++ [g] ++ c.grants.drop k) := HE
            have HRL : Hid (n + 1 = (insG c.grants g).length) := Lib.hid (by rw [HRes.out]; simp; have := HN.out; omega)
            have HRC : Hid (cellsG (c.grants.take k) ++ [.int .i64 g.a, .int .i64 g.f, .int .i64 g.t] ++ cellsG (c.grants.drop k) = cellsG (insG c.grants g)) := Lib.hid (by rw [HRes.out]; simp [cellsG, gC])
            clear HE
            go_wp2_with (first
              | (at_builtin; refine wpList_append_own _ rfl (.tmp 35) (.tmp 42) 26 rfl W.heap.size 48 j0 (.agg #[.int .i64 0, .int .i64 0, .int .i64 0]) 3 24 Tryz.underlying26 hj jz0 jz1 jz2 rfl (by decide) _ 0 [] rfl (World.ownsRow_nil _ _ _ _) ⟨q, 0, none⟩ k _ (cellsG (c.grants.take k)) rfl HL1.out (HN1.out _ B2.out) (one_gcell _) (by unfold maxLen; omega) (by omega) B2.out.size ?_; intro v6 w6 h7 h8 h9; rw [Nat.zero_add, List.nil_append] at h7; have O6 := Lib.hid h7; have B6 := Lib.hid (B2.out.grown h8 B2.out.size (fun k e => by cases e)); clear b1 b2 b3 b4; obtain ⟨b1, b2, b3, b4⟩ := And.intro (HPC.out _ B6.out) (HGC.out _ B6.out); clear h7 h8 h9)
              | (at_builtin; refine wpList_append_own _ rfl (.tmp 44) (.tmp 46) 26 rfl W.heap.size 48 j0 (.agg #[.int .i64 0, .int .i64 0, .int .i64 0]) 3 24 Tryz.underlying26 hj jz0 jz1 jz2 rfl (by decide) _ k _ rfl (O6.out.alloc _) ⟨w6.heap.size, 0, none⟩ 1 1 [.int .i64 g.a, .int .i64 g.f, .int .i64 g.t] rfl rfl ?_ ?_ ?_ ?_ ?_ ?_; (exact cells3_new5 _ _ _ _ _); (intro u hu; simp at hu; rcases hu with rfl | rfl | rfl <;> rfl); (unfold maxLen; omega); (omega); (have hq := B6.out.size; simp; omega); intro v7 w7 h7 h8 h9; have B7 := Lib.hid (below_own5 (B6.out.alloc B6.out.size (.cells #[.int .i64 g.a, .int .i64 g.f, .int .i64 g.t] 48)) h8 (O6.out.alloc (.cells #[.int .i64 g.a, .int .i64 g.f, .int .i64 g.t] 48)) (by have hq := B6.out.size; simp; omega)); have O7 := Lib.hid h7; clear b1 b2 b3 b4; obtain ⟨b1, b2, b3, b4⟩ := And.intro (HPC.out _ B7.out) (HGC.out _ B7.out); clear h7 h8 h9)
              | (at_builtin; refine wpList_append_own _ rfl (.tmp 48) (.tmp 55) 26 rfl W.heap.size 48 j0 (.agg #[.int .i64 0, .int .i64 0, .int .i64 0]) 3 24 Tryz.underlying26 hj jz0 jz1 jz2 rfl (by decide) _ (k + 1) _ rfl O7.out ⟨q, _, none⟩ (n - k) _ (cellsG (c.grants.drop k)) rfl HL2.out ?_ (one_gcell _) (by unfold maxLen; omega) (by omega) B7.out.size ?_; (refine HN2.out _ B7.out _ ?_; omega); intro v8 w8 h7 h8 h9; have B8 := Lib.hid (below_own5 B7.out h8 O7.out B7.out.size); rw [show k + 1 + (n - k) = (insG c.grants g).length by have := HRL.out; omega, HRC.out] at h7; obtain ⟨A8, c8, rfl⟩ := own_sl h7; have O8 := Lib.hid h7; have X8 := Lib.hid (HX0.out.below B8.out); have f1 := X8.out.1.free 3; clear b1 b2 b3 b4; have b1 := HPC.out _ B8.out; clear h7 h8 h9))
            (try simp only [Exit.inBlock, Exit.then])
            refine bodyPost_end (results_none rfl _ _ _) rfl ?_
            exact ⟨rfl, ⟨_, _, _, _, X8.out.grants (own_low O8.out HbW.out)⟩, HBb.out.trans ((B8.out.mono HbW.out).setCell (p := ⟨P, 3, none⟩) X8.out.2.1 _), only_store (only_of_below (below_step HB0.out B8.out) (Nat.le_refl _)) 3 _⟩
          · have HE := Lib.hid (HYes.out rfl)
            clear HSto HYes HGt HLs hS hS2
            go_wp2
            go_roundw
            case rel => exact ⟨k + 1, by omega, by go_num, HE.out, B2.out⟩
            case measure => simp [intOf]; omega
        · obtain rfl : k = n := by omega
          have HE := Lib.hid (HIns.out k (Nat.le_of_eq HN.out.symm) HJ.out (fun h => absurd h (by have := HN.out; omega)))
          go_wp2
          rename_i K hK
          have hS : (fun w' : World => w'.cell? ⟨P, 3, none⟩ = some (.slice (some ⟨q, 0, none⟩) k cap) ∧ w'.cell? ⟨w.heap.size, 0, none⟩ = some (.int .i64 g.a) ∧ w'.cell? ⟨w.heap.size, 1, none⟩ = some (.int .i64 g.f) ∧ w'.cell? ⟨w.heap.size, 2, none⟩ = some (.int .i64 g.t)) wr.drew := ⟨HPC.out _ (below_step BW.out BD2), HGC.out _ (below_step BW.out BD2)⟩
          refine wp_held (fun w' : World => w'.cell? ⟨P, 3, none⟩ = some (.slice (some ⟨q, 0, none⟩) k cap) ∧ w'.cell? ⟨w.heap.size, 0, none⟩ = some (.int .i64 g.a) ∧ w'.cell? ⟨w.heap.size, 1, none⟩ = some (.int .i64 g.f) ∧ w'.cell? ⟨w.heap.size, 2, none⟩ = some (.int .i64 g.t)) K hmx ?_ (fun _ _ h => h)
          refine wpAnyH_take (i := 0) (v := .int .i64 (k : Int)) rfl (by kernel_rfl) (by kernel_rfl) (by kernel_rfl) (fun _ _ _ h => h) (Or.inl ⟨by rfl, ?_⟩) hS ?_
          · rintro w6 ⟨b1, b2, b3, b4⟩
            go_simp
          simp only [Act.put, List.setIfInBounds_toArray, List.set_cons_zero, List.set_cons_succ, List.getElem_toArray, List.getElem_cons_zero]
          refine wpAnyH_take (i := 1) (v := .pointer (some ⟨P, 0, none⟩)) rfl (by kernel_rfl) (by kernel_rfl) (by kernel_rfl) (fun _ _ _ h => h) (Or.inl ⟨by rfl, ?_⟩) hS ?_
          · rintro w6 ⟨b1, b2, b3, b4⟩
            go_simp
          simp only [Act.put, List.setIfInBounds_toArray, List.set_cons_zero, List.set_cons_succ, List.getElem_toArray, List.getElem_cons_zero, List.getElem_cons_succ]
          refine wpAnyH_take (i := 2) (v := .pointer (some ⟨P, 0, none⟩)) rfl (by kernel_rfl) (by kernel_rfl) (by kernel_rfl) (fun _ _ _ h => h) (Or.inl ⟨by rfl, ?_⟩) hS ?_
          · rintro w6 ⟨b1, b2, b3, b4⟩
            go_simp
          simp only [Act.put, List.setIfInBounds_toArray, List.set_cons_zero, List.set_cons_succ, List.getElem_toArray, List.getElem_cons_zero, List.getElem_cons_succ]
          refine wpAnyH_take (i := 3) (v := .pointer (some ⟨P, 0, none⟩)) rfl (by kernel_rfl) (by kernel_rfl) (by kernel_rfl) (fun _ _ _ h => h) (Or.inl ⟨by rfl, ?_⟩) hS ?_
          · rintro w6 ⟨b1, b2, b3, b4⟩
            go_simp
          simp only [Act.put, List.setIfInBounds_toArray, List.set_cons_zero, List.set_cons_succ, List.getElem_toArray, List.getElem_cons_zero, List.getElem_cons_succ]
          refine wpAnyH_take (i := 4) (v := .pointer (some ⟨P, 3, none⟩)) rfl (by kernel_rfl) (by kernel_rfl) (by kernel_rfl) (fun _ _ _ h => h) (Or.inl ⟨by rfl, ?_⟩) hS ?_
          · rintro w6 ⟨b1, b2, b3, b4⟩
            go_simp
          simp only [Act.put, List.setIfInBounds_toArray, List.set_cons_zero, List.set_cons_succ, List.getElem_toArray, List.getElem_cons_zero, List.getElem_cons_succ]
          refine wpAnyH_take (i := 5) (v := .slice (some ⟨q, 0, none⟩) k cap) rfl (by kernel_rfl) (by kernel_rfl) (by kernel_rfl) (fun _ _ _ h => h) (Or.inl ⟨by rfl, ?_⟩) hS ?_
          · rintro w6 ⟨b1, b2, b3, b4⟩
            go_simp
          simp only [Act.put, List.setIfInBounds_toArray, List.set_cons_zero, List.set_cons_succ, List.getElem_toArray, List.getElem_cons_zero, List.getElem_cons_succ]
          refine wpAnyH_take (i := 6) (v := .int .i64 (k : Int)) rfl (by kernel_rfl) (by kernel_rfl) (by kernel_rfl) (fun _ _ _ h => h) (Or.inl ⟨by rfl, ?_⟩) hS ?_
          · rintro w6 ⟨b1, b2, b3, b4⟩
            go_simp
          simp only [Act.put, List.setIfInBounds_toArray, List.set_cons_zero, List.set_cons_succ, List.getElem_toArray, List.getElem_cons_zero, List.getElem_cons_succ]
          refine wpAnyH_take (i := 7) (v := .bool false) rfl (by kernel_rfl) (by kernel_rfl) (by kernel_rfl) (fun _ _ _ h => h) (Or.inl ⟨by rfl, ?_⟩) hS ?_
          · rintro w6 ⟨b1, b2, b3, b4⟩
            go_simp
          simp only [Act.put, List.setIfInBounds_toArray, List.set_cons_zero, List.set_cons_succ, List.getElem_toArray, List.getElem_cons_zero, List.getElem_cons_succ]
          refine wpAnyH_take (i := 8) (v := .bool false) rfl (by kernel_rfl) (by kernel_rfl) (by kernel_rfl) (fun _ _ _ h => h) (Or.inl ⟨by rfl, ?_⟩) hS ?_
          · rintro w6 ⟨b1, b2, b3, b4⟩
            go_simp
          simp only [Act.put, List.setIfInBounds_toArray, List.set_cons_zero, List.set_cons_succ, List.getElem_toArray, List.getElem_cons_zero, List.getElem_cons_succ]
          refine wpAnyH_take (i := 9) (v := undef) rfl (by kernel_rfl) (by kernel_rfl) (by kernel_rfl) (fun _ _ _ h => h) (Or.inr ⟨by rfl, rfl⟩) hS ?_
          simp only [Act.put, List.setIfInBounds_toArray, List.set_cons_zero, List.set_cons_succ, List.getElem_toArray, List.getElem_cons_zero, List.getElem_cons_succ]
          refine wpAnyH_take (i := 10) (v := undef) rfl (by kernel_rfl) (by kernel_rfl) (by kernel_rfl) (fun _ _ _ h => h) (Or.inr ⟨by rfl, rfl⟩) hS ?_
          simp only [Act.put, List.setIfInBounds_toArray, List.set_cons_zero, List.set_cons_succ, List.getElem_toArray, List.getElem_cons_zero, List.getElem_cons_succ]
          refine wpAnyH_take (i := 11) (v := undef) rfl (by kernel_rfl) (by kernel_rfl) (by kernel_rfl) (fun _ _ _ h => h) (Or.inr ⟨by rfl, rfl⟩) hS ?_
          simp only [Act.put, List.setIfInBounds_toArray, List.set_cons_zero, List.set_cons_succ, List.getElem_toArray, List.getElem_cons_zero, List.getElem_cons_succ]
          refine wpAnyH_take (i := 12) (v := undef) rfl (by kernel_rfl) (by kernel_rfl) (by kernel_rfl) (fun _ _ _ h => h) (Or.inr ⟨by rfl, rfl⟩) hS ?_
          simp only [Act.put, List.setIfInBounds_toArray, List.set_cons_zero, List.set_cons_succ, List.getElem_toArray, List.getElem_cons_zero, List.getElem_cons_succ]
          refine wpAnyH_take (i := 13) (v := undef) rfl (by kernel_rfl) (by kernel_rfl) (by kernel_rfl) (fun _ _ _ h => h) (Or.inr ⟨by rfl, rfl⟩) hS ?_
          simp only [Act.put, List.setIfInBounds_toArray, List.set_cons_zero, List.set_cons_succ, List.getElem_toArray, List.getElem_cons_zero, List.getElem_cons_succ]
          refine wpAnyH_take (i := 14) (v := undef) rfl (by kernel_rfl) (by kernel_rfl) (by kernel_rfl) (fun _ _ _ h => h) (Or.inr ⟨by rfl, rfl⟩) hS ?_
          simp only [Act.put, List.setIfInBounds_toArray, List.set_cons_zero, List.set_cons_succ, List.getElem_toArray, List.getElem_cons_zero, List.getElem_cons_succ]
          refine wpAnyH_take (i := 15) (v := undef) rfl (by kernel_rfl) (by kernel_rfl) (by kernel_rfl) (fun _ _ _ h => h) (Or.inr ⟨by rfl, rfl⟩) hS ?_
          simp only [Act.put, List.setIfInBounds_toArray, List.set_cons_zero, List.set_cons_succ, List.getElem_toArray, List.getElem_cons_zero, List.getElem_cons_succ]
          refine wpAnyH_take (i := 16) (v := undef) rfl (by kernel_rfl) (by kernel_rfl) (by kernel_rfl) (fun _ _ _ h => h) (Or.inr ⟨by rfl, rfl⟩) hS ?_
          simp only [Act.put, List.setIfInBounds_toArray, List.set_cons_zero, List.set_cons_succ, List.getElem_toArray, List.getElem_cons_zero, List.getElem_cons_succ]
          refine wpAnyH_take (i := 17) (v := undef) rfl (by kernel_rfl) (by kernel_rfl) (by kernel_rfl) (fun _ _ _ h => h) (Or.inr ⟨by rfl, rfl⟩) hS ?_
          simp only [Act.put, List.setIfInBounds_toArray, List.set_cons_zero, List.set_cons_succ, List.getElem_toArray, List.getElem_cons_zero, List.getElem_cons_succ]
          refine wpAnyH_take (i := 18) (v := undef) rfl (by kernel_rfl) (by kernel_rfl) (by kernel_rfl) (fun _ _ _ h => h) (Or.inr ⟨by rfl, rfl⟩) hS ?_
          simp only [Act.put, List.setIfInBounds_toArray, List.set_cons_zero, List.set_cons_succ, List.getElem_toArray, List.getElem_cons_zero, List.getElem_cons_succ]
          refine wpAnyH_take (i := 19) (v := .bool false) rfl (by kernel_rfl) (by kernel_rfl) (by kernel_rfl) (fun _ _ _ h => h) (Or.inl ⟨by rfl, ?_⟩) hS ?_
          · rintro w6 ⟨b1, b2, b3, b4⟩
            go_simp
          simp only [Act.put, List.setIfInBounds_toArray, List.set_cons_zero, List.set_cons_succ, List.getElem_toArray, List.getElem_cons_zero, List.getElem_cons_succ]
          refine wpAnyH_done (by kernel_rfl) ?_ _
          refine hK _ _ ?_
          have B2 := Lib.hid (below_step BW.out BD2)
          clear hS
          have HL1 : Hid ((cellsG (c.grants.take k)).length = k * 3) := Lib.hid (by rw [cellsG_len, List.length_take]; have := HN.out; omega)
          have HN1 := Lib.hid (fun w1 (h1 : Below W.heap.size W w1) => show ∀ (j : Nat) (u : Value), (cellsG (c.grants.take k))[j]? = some u → w1.cell? ((⟨q, 0, none⟩ : Addr).add j) = some u by
            intro j u hj
            obtain ⟨g5, o5, hA5, hc5⟩ := (HAG.out.below h1).reads (by have := (List.getElem?_eq_some_iff.1 hj).1; rw [cellsG_take, List.length_take] at this; omega)
            injection hA5 with hA5
            injection hA5 with q5 q6
            subst q5 q6
            rw [add_plain]
            refine hc5 j u ?_
            rw [cellsG_take, List.getElem?_take] at hj
            split at hj
            · exact hj
            · cases hj)
          have HL2 : Hid ((cellsG (c.grants.drop k)).length = 0 * 3) := Lib.hid (by rw [cellsG_len, List.length_drop]; have := HN.out; omega)
          have HN2 := Lib.hid (fun w1 (h1 : Below W.heap.size W w1) (x : Nat) (hx : x = k * 3 ∨ k = k) => show ∀ (j : Nat) (u : Value), (cellsG (c.grants.drop k))[j]? = some u → w1.cell? ((⟨q, x, none⟩ : Addr).add j) = some u by
            intro j u hj
            have hjl := (List.getElem?_eq_some_iff.1 hj).1
            rw [HL2.out] at hjl
            obtain ⟨g5, o5, hA5, hc5⟩ := (HAG.out.below h1).reads (by rw [cellsG_drop, List.getElem?_drop] at hj; have := (List.getElem?_eq_some_iff.1 hj).1; omega)
            injection hA5 with hA5
            injection hA5 with q5 q6
            subst q5 q6
            obtain rfl : x = k * 3 := by omega
            rw [add_plain, show k * 3 + j = 0 + (3 * k + j) by omega]
            refine hc5 _ u ?_
            rw [cellsG_drop, List.getElem?_drop] at hj
            exact hj)
          have s0 : (0 : Int) ≤ (k : Int) := by omega
          have s1 : (k : Int) ≤ (cap : Int) := by omega
          have s2 : (k : Int) ≤ (k : Int) := by omega
          obtain ⟨b1, b2, b3, b4⟩ := And.intro (HPC.out _ B2.out) (HGC.out _ B2.out)
          have HRes : Hid (insG c.grants g = c.grants.take k ++ [g] ++ c.grants.drop k) := HE
          have HRL : Hid (k + 1 = (insG c.grants g).length) := Lib.hid (by rw [HRes.out]; simp; have := HN.out; omega)
          have HRC : Hid (cellsG (c.grants.take k) ++ [.int .i64 g.a, .int .i64 g.f, .int .i64 g.t] ++ cellsG (c.grants.drop k) = cellsG (insG c.grants g)) := Lib.hid (by rw [HRes.out]; simp [cellsG, gC])
          clear HE
          rcases (show k = cap ∨ (k ≠ cap ∧ ¬ cap = k) by omega) with rfl | ⟨hck, hck2⟩
          all_goals
            go_wp2_with (first
              | (at_builtin; refine wpList_append_own _ rfl (.tmp 35) (.tmp 42) 26 rfl W.heap.size 48 j0 (.agg #[.int .i64 0, .int .i64 0, .int .i64 0]) 3 24 Tryz.underlying26 hj jz0 jz1 jz2 rfl (by decide) _ 0 [] rfl (World.ownsRow_nil _ _ _ _) ⟨q, 0, none⟩ k _ (cellsG (c.grants.take k)) rfl HL1.out (HN1.out _ B2.out) (one_gcell _) (by unfold maxLen; omega) (by omega) B2.out.size ?_; intro v6 w6 h7 h8 h9; rw [Nat.zero_add, List.nil_append] at h7; have O6 := Lib.hid h7; have B6 := Lib.hid (B2.out.grown h8 B2.out.size (fun k e => by cases e)); clear b1 b2 b3 b4; obtain ⟨b1, b2, b3, b4⟩ := And.intro (HPC.out _ B6.out) (HGC.out _ B6.out); clear h7 h8 h9)
              | (at_builtin; refine wpList_append_own _ rfl (.tmp 44) (.tmp 46) 26 rfl W.heap.size 48 j0 (.agg #[.int .i64 0, .int .i64 0, .int .i64 0]) 3 24 Tryz.underlying26 hj jz0 jz1 jz2 rfl (by decide) _ k _ rfl (O6.out.alloc _) ⟨w6.heap.size, 0, none⟩ 1 1 [.int .i64 g.a, .int .i64 g.f, .int .i64 g.t] rfl rfl ?_ ?_ ?_ ?_ ?_ ?_; (exact cells3_new5 _ _ _ _ _); (intro u hu; simp at hu; rcases hu with rfl | rfl | rfl <;> rfl); (unfold maxLen; omega); (omega); (have hq := B6.out.size; simp; omega); intro v7 w7 h7 h8 h9; have B7 := Lib.hid (below_own5 (B6.out.alloc B6.out.size (.cells #[.int .i64 g.a, .int .i64 g.f, .int .i64 g.t] 48)) h8 (O6.out.alloc (.cells #[.int .i64 g.a, .int .i64 g.f, .int .i64 g.t] 48)) (by have hq := B6.out.size; simp; omega)); have O7 := Lib.hid h7; clear b1 b2 b3 b4; obtain ⟨b1, b2, b3, b4⟩ := And.intro (HPC.out _ B7.out) (HGC.out _ B7.out); clear h7 h8 h9)
              | (at_builtin; refine wpList_append_own _ rfl (.tmp 48) (.tmp 55) 26 rfl W.heap.size 48 j0 (.agg #[.int .i64 0, .int .i64 0, .int .i64 0]) 3 24 Tryz.underlying26 hj jz0 jz1 jz2 rfl (by decide) _ (k + 1) _ rfl O7.out ⟨q, _, none⟩ 0 _ (cellsG (c.grants.drop k)) rfl HL2.out ?_ (one_gcell _) (by unfold maxLen; omega) (by omega) B7.out.size ?_; (refine HN2.out _ B7.out _ ?_; omega); intro v8 w8 h7 h8 h9; have B8 := Lib.hid (below_own5 B7.out h8 O7.out B7.out.size); rw [show k + 1 + 0 = (insG c.grants g).length by have := HRL.out; omega, HRC.out] at h7; obtain ⟨A8, c8, rfl⟩ := own_sl h7; have O8 := Lib.hid h7; have X8 := Lib.hid (HX0.out.below B8.out); have f1 := X8.out.1.free 3; clear b1 b2 b3 b4; have b1 := HPC.out _ B8.out; clear h7 h8 h9))
            (try simp only [Exit.inBlock, Exit.then])
            refine bodyPost_end (results_none rfl _ _ _) rfl ?_
            exact ⟨rfl, ⟨_, _, _, _, X8.out.grants (own_low O8.out HbW.out)⟩, HBb.out.trans ((B8.out.mono HbW.out).setCell (p := ⟨P, 3, none⟩) X8.out.2.1 _), only_store (only_of_below (below_step HB0.out B8.out) (Nat.le_refl _)) 3 _⟩

end Go.Proofs.YtogcbmhcddcfkaaGreatDoor
