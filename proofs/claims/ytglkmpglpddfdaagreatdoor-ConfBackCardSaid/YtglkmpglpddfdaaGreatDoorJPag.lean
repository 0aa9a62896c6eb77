import Derived.Test.YtglkmpglpddfdaaGreatDoorJ13
import Derived.Deep.Onto
import Derived.Laws.AppendOwnNone
/- Of a claim's texts, joined: Pag. No statement but in the last. -/
namespace Go.Proofs.YtglkmpglpddfdaaGreatDoor
open Go.RowKit
set_option linter.unusedVariables false

def PBx (w : World) (base P : Nat) (vn vu vq vg : Value) (c : Cf) : Prop :=
  Has w P 50 #[vn, vu, vq, vg] ∧ base ≤ P ∧ w.ownsRow base 9 1 vn c.names.length (c.names.map strV) ∧ w.ownsRow base 37 1 vu c.up.length (c.up.map u64V) ∧
    w.ownsRow base 3 1 vq c.quotas.length (c.quotas.map (Value.int .i64)) ∧ w.ownsRow base 45 3 vg c.grants.length (cellsG c.grants)
def PB (w : World) (base P : Nat) (c : Cf) : Prop := ∃ vn vu vq vg, PBx w base P vn vu vq vg c
theorem own_bel {w w' : World} {b : Nat} {e : TypeId} {s n : Nat} {v : Value} {xs : List Value} (h : w.ownsRow b e s v n xs) (hb : Below w.heap.size w w') : w'.ownsRow b e s v n xs := by
  refine ⟨h.1, ?_⟩
  rcases h.2 with hn | ⟨g, cap, cur, rfl, hg, hh, hr⟩
  · exact .inl hn
  · refine .inr ⟨g, cap, cur, rfl, hg, ?_, hr⟩
    rw [hb.block g (Array.getElem?_eq_some_iff.1 hh).1]
    exact hh
theorem PBx.below {w w' : World} {base P : Nat} {vn vu vq vg : Value} {c : Cf} (h : PBx w base P vn vu vq vg c) (hb : Below w.heap.size w w') : PBx w' base P vn vu vq vg c := by
  obtain ⟨h1, h2, h3, h4, h5, h6⟩ := h
  exact ⟨h1.below hb h1.lt, h2, own_bel h3 hb, own_bel h4 hb, own_bel h5 hb, own_bel h6 hb⟩
theorem PB.below {w w' : World} {base P : Nat} {c : Cf} (h : PB w base P c) (hb : Below w.heap.size w w') : PB w' base P c := by
  obtain ⟨vn, vu, vq, vg, h⟩ := h
  exact ⟨vn, vu, vq, vg, h.below hb⟩
theorem own_sep {w : World} {b b' : Nat} {e e' : TypeId} {s s' n n' : Nat} {v v' : Value} {xs ys : List Value} (h : w.ownsRow b e s v n xs) (k : w.ownsRow b' e' s' v' n' ys) (hne : e ≠ e') : v.ownBlock = none ∨ v.ownBlock ≠ v'.ownBlock := by
  rcases h.2 with ⟨rfl, _⟩ | ⟨g, cap, cur, rfl, _, hg, _⟩
  · exact .inl rfl
  · right
    rcases k.2 with ⟨rfl, _⟩ | ⟨g', cap', cur', rfl, _, hg', _⟩
    · simp [Value.ownBlock]
    · simp only [Value.ownBlock, ne_eq, Option.some.injEq]
      exact Has.apart (w := w) (g := g) (t := e) (cs := cur) hg hg' hne
theorem own_off {w : World} {b Q : Nat} {e t : TypeId} {s n : Nat} {v : Value} {xs : List Value} {cs : Array Value} (h : w.ownsRow b e s v n xs) (hQ : Has w Q t cs) (hne : e ≠ t) : v.ownBlock ≠ some Q := by
  rcases h.2 with ⟨rfl, _⟩ | ⟨g, cap, cur, rfl, _, hg, _⟩
  · simp [Value.ownBlock]
  · simp only [Value.ownBlock, ne_eq, Option.some.injEq]
    exact Has.apart (w := w) (g := g) (t := e) (cs := cur) hg hQ hne
theorem has_grown {w w' : World} {b Q : Nat} {e t : TypeId} {s n : Nat} {v : Value} {xs : List Value} {cs : Array Value} (hQ : Has w Q t cs) (h : w.ownsRow b e s v n xs) (hg : w.grownBy w' v.ownBlock) (hne : e ≠ t) : Has w' Q t cs :=
  hQ.grown hg (fun e => own_off h hQ hne e.symm)
theorem own_store {w : World} {b P : Nat} {e t : TypeId} {s n : Nat} {v : Value} {xs : List Value} {cs : Array Value} (h : w.ownsRow b e s v n xs) (hP : Has w P t cs) (hne : e ≠ t) (i : Nat) (u : Value) : (w.setCell ⟨P, i, none⟩ u).ownsRow b e s v n xs :=
  h.kept (only_store (only_refl w P) i u) (.inr (own_off h hP hne))
theorem argT_own {w : World} {B n : Nat} {v : Value} {l : List (List UInt8)} (h : w.ownsRow B 9 1 v n (l.map strV)) (hn : n = l.length) : ∃ A c, v = .slice A n c ∧ ArgT w A n c l := by
  rcases h.2 with ⟨rfl, rfl⟩ | ⟨g, cap, cur, rfl, hB, hg, h1, h2, _, hcur⟩
  · have : l = [] := List.eq_nil_of_length_eq_zero hn.symm
    subst this
    exact ⟨none, 0, rfl, rfl, fun hx => absurd hx (by simp), fun hx => absurd hx (by omega), Nat.le_refl _, Nat.zero_le _⟩
  · refine ⟨_, cap, rfl, hn, fun _ => ⟨g, 0, rfl, fun j u hj => ?_⟩, fun _ a ha => by injection ha with ha; subst ha; exact (Array.getElem?_eq_some_iff.1 hg).1, h1, h2⟩
    rw [Has.cell (w := w) (g := g) (t := 9) (cs := cur) hg]
    rw [← hcur, List.getElem?_take] at hj
    split at hj
    · simpa using hj
    · cases hj
theorem argGo {w : World} {B n : Nat} {v : Value} {l : List G} (h : w.ownsRow B 45 3 v n (cellsG l)) (hn : n = l.length) : (v = .slice none 0 0 ∧ l = []) ∨ ∃ g c, v = .slice (some ⟨g, 0, none⟩) n c ∧ ArgG w (some ⟨g, 0, none⟩) n c l := by
  rcases h.2 with ⟨rfl, rfl⟩ | ⟨g, cap, cur, rfl, hB, hg, h1, h2, _, hcur⟩
  · exact .inl ⟨rfl, List.eq_nil_of_length_eq_zero hn.symm⟩
  · refine .inr ⟨g, cap, rfl, hn, fun _ => ⟨g, 0, rfl, fun j u hj => ?_⟩, fun _ a ha => by injection ha with ha; subst ha; exact (Array.getElem?_eq_some_iff.1 hg).1, h1, h2⟩
    rw [Has.cell (w := w) (g := g) (t := 45) (cs := cur) hg]
    rw [← hcur, List.getElem?_take] at hj
    split at hj
    · simpa using hj
    · cases hj
theorem ginfo5 : (Tryz.prog.info? 45).map (fun i => (i.zero, i.size, i.bytes)) = some (some (.agg #[.int .i64 0, .int .i64 0, .int .i64 0]), 3, 24) := by kernel_rfl
theorem cells3_new5 (w : World) (a f t : Value) (ty : TypeId) : ∀ (j : Nat) (u : Value), ([a, f, t] : List Value)[j]? = some u → (w.alloc (.cells #[a, f, t] ty)).cell? ((⟨w.heap.size, 0, none⟩ : Addr).add j) = some u := by
  intro j u hj
  rw [add_plain, (Has.made w ty #[a, f, t]).cell]
  simpa using hj
theorem below_own5 {B : Nat} {w0 w w' : World} {e : TypeId} {s n : Nat} {v : Value} {xs : List Value} (h : Below B w0 w) (hg : w.grownBy w' v.ownBlock) (ho : w.ownsRow B e s v n xs) (hB : B ≤ w.heap.size) : Below B w0 w' :=
  h.grown hg hB (fun k hk => (ho.lt k hk).1)
theorem PBx.grants {w : World} {base P : Nat} {vn vu vq vg v : Value} {c : Cf} {l : List G} (h : PBx w base P vn vu vq vg c) (ho : w.ownsRow base 45 3 v l.length (cellsG l)) :
    PBx (w.setCell ⟨P, 3, none⟩ v) base P vn vu vq v { c with grants := l } := by
  obtain ⟨h1, h2, h3, h4, h5, h6⟩ := h
  refine ⟨?_, h2, own_store h3 h1 (by decide) _ _, own_store h4 h1 (by decide) _ _, own_store h5 h1 (by decide) _ _, own_store ho h1 (by decide) _ _⟩
  have := h1.store 3 v
  simpa using this
theorem own_sl {w : World} {b : Nat} {e : TypeId} {s n : Nat} {v : Value} {xs : List Value} (h : w.ownsRow b e s v n xs) : ∃ A c, v = .slice A n c := by
  rcases h.2 with ⟨rfl, rfl⟩ | ⟨g, cap, cur, rfl, _⟩
  · exact ⟨none, 0, rfl⟩
  · exact ⟨_, _, rfl⟩
def GrantEnd (base P : Nat) (c : Cf) (w : World) (e : Ending) (w' : World) : Prop := e = .returned (.tuple #[]) ∧ PB w' base P c ∧ Below base w w' ∧ w.grownBy w' (some P)
end Go.Proofs.YtglkmpglpddfdaaGreatDoor
