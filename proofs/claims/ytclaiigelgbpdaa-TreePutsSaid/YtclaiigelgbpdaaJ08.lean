import Derived.Test.YtclaiigelgbpdaaJTrh
/- Of a claim's texts, joined: Tri Trk. No statement but in the last. -/
section
namespace Go.Proofs.Ytclaiigelgbpdaa
open Go.RowKit
set_option linter.unusedVariables false

def BndN (m : Nat) : Tr → Prop
  | .leaf _ l => l.length ≤ m ∧ ∀ x ∈ l, x.k.length ≤ 500 ∧ x.d.length ≤ 1000
  | .branch _ l => l.length ≤ m ∧ ∀ x ∈ l, x.1.length ≤ 500
theorem bndN_cells {F : Nat → Prop} {w : World} {es : List CE} {t : Tr} {m : Nat} (hb : BndN m t) (h : cellsR F w es t) : es.length ≤ m ∧ ∀ e ∈ es, e.k.length ≤ 500 ∧ e.d.length ≤ 1000 := by
  cases t with
  | leaf p l =>
    have h' : Both (CellL F w) es l := h
    refine ⟨by rw [h'.1]; exact hb.1, fun e he => ?_⟩
    obtain ⟨i, hi⟩ := List.getElem?_of_mem he
    have hlt := (List.getElem?_eq_some_iff.1 hi).1
    have hl := List.getElem?_eq_getElem (l := l) (i := i) (by rw [← h'.1]; exact hlt)
    obtain ⟨⟨h1, h2⟩, _⟩ := h'.2 i e _ hi hl
    rw [h1, h2]
    exact hb.2 _ (List.mem_of_getElem? hl)
  | branch p l =>
    have h' : Both (CellT F w) es l := h
    refine ⟨by rw [h'.1]; exact hb.1, fun e he => ?_⟩
    obtain ⟨i, hi⟩ := List.getElem?_of_mem he
    have hlt := (List.getElem?_eq_some_iff.1 hi).1
    have hl := List.getElem?_eq_getElem (l := l) (i := i) (by rw [← h'.1]; exact hlt)
    obtain ⟨v, ⟨⟨h1, h2, _⟩, _⟩, _⟩ := h'.2 i e _ hi hl
    rw [h1, h2]
    exact ⟨hb.2 _ (List.mem_of_getElem? hl), by simp⟩
theorem bndC_of {F : Nat → Prop} {w : World} {es : List CE} {t : Tr} (hb : BndN 100 t) (h : cellsR F w es t) : BndC es := bndN_cells hb h
theorem BndN.mono {m n : Nat} {t : Tr} (h : BndN m t) (hmn : m ≤ n) : BndN n t := by
  cases t <;> exact ⟨Nat.le_trans h.1 hmn, h.2⟩
def Fw (F : Nat → Prop) (B : Nat) : Nat → Prop := fun g => F g ∨ B ≤ g
theorem newC_rep {G H : Nat → Prop} {w : World} {e : CE} {key : List UInt8} {bl : List CE} {t : Tr} (h : NewC G w e key (kindT t) bl) (hp : pageT t = 0) (hm : ∀ g, G g → H g) (hc : cellsR H w bl t) : CellT H w e (key, t) := by
  obtain ⟨h1, h2, v, ⟨hv1, hv2⟩, h3, h4⟩ := h
  exact ⟨v, ⟨h1, h2, h3.mono hm⟩, repN_iff.2 ⟨by rw [hv1, hp], hv2, bl, h4.mono hm, hc⟩⟩
theorem keyE_both {F : Nat → Prop} {w : World} {es : List CE} {l : List (List UInt8 × Tr)} (h : Both (CellT F w) es l) (s : List UInt8) : Both (CellT F w) (keyE s es) (keyed s l) := by
  cases l with
  | nil =>
    have : es = [] := List.length_eq_zero_iff.1 h.1
    subst this
    exact Both.nil
  | cons x l =>
    cases es with
    | nil => exact absurd h.1 (by simp)
    | cons e es =>
      have ht := h.drop 1
      simp only [List.drop_succ_cons, List.drop_zero] at ht
      obtain ⟨v, ⟨⟨h1, h2⟩, h3⟩, h4⟩ := h.2 0 e x rfl rfl
      exact Both.cons ⟨v, ⟨⟨rfl, h2⟩, h3⟩, h4⟩ ht
theorem kindT_front (n : Nat) (t : Tr) : kindT (frontT n t) = kindT t ∧ pageT (frontT n t) = 0 := by cases t <;> exact ⟨rfl, rfl⟩
theorem kindT_back (n : Nat) (t : Tr) : kindT (backT n t) = kindT t ∧ pageT (backT n t) = 0 := by cases t <;> exact ⟨rfl, rfl⟩
theorem cells_front {F : Nat → Prop} {w : World} {es : List CE} {t : Tr} (h : cellsR F w es t) (n : Nat) : cellsR F w (es.take n) (frontT n t) := by
  cases t with
  | leaf p l => exact Both.take h n
  | branch p l => exact Both.take h n
theorem cells_back {F : Nat → Prop} {w : World} {es : List CE} {t : Tr} (h : cellsR F w es t) (n : Nat) : cellsR F w (if kindT t = true then es.drop n else keyE [] (es.drop n)) (backT n t) := by
  cases t with
  | leaf p l => exact Both.drop h n
  | branch p l => exact keyE_both (Both.drop h n) []
theorem cells_key {F : Nat → Prop} {w : World} {es : List CE} {t : Tr} (h : cellsR F w es t) {n : Nat} {x : CE} (hx : es[n]? = some x) : x.k = keyT n t := by
  have hlt := (List.getElem?_eq_some_iff.1 hx).1
  cases t with
  | leaf p l =>
    have h' : Both (CellL F w) es l := h
    have hl := List.getElem?_eq_getElem (l := l) (i := n) (by rw [← h'.1]; exact hlt)
    obtain ⟨⟨h1, _⟩, _⟩ := h'.2 n x _ hx hl
    rw [h1, keyT, List.getD_eq_getElem?_getD, hl]
    rfl
  | branch p l =>
    have h' : Both (CellT F w) es l := h
    have hl := List.getElem?_eq_getElem (l := l) (i := n) (by rw [← h'.1]; exact hlt)
    obtain ⟨v, ⟨⟨h1, _⟩, _⟩, _⟩ := h'.2 n x _ hx hl
    rw [h1, keyT, List.getD_eq_getElem?_getD, hl]
    rfl
theorem kid_at {F : Nat → Prop} {w : World} {v : NV} {p : Int} {l : List (List UInt8 × Tr)} (h : RepN F w v (.branch p l)) {k : Nat} (hk : k < l.length) :
    ∃ es e vk ek, v.p = p ∧ v.lf = false ∧ RwF F w v.A v.n v.c 4 (flatC es) ∧ Both (CellT F w) es l ∧ es[k]? = some e ∧ e.kn = 1 ∧ RwF F w e.ka 1 e.kc 3 (nvL vk) ∧ e.k = (kidT l k).1 ∧
      RwF F w vk.A vk.n vk.c 4 (flatC ek) ∧ cellsR F w ek (kidT l k).2 ∧ vk.lf = kindT (kidT l k).2 ∧ RepN F w vk (kidT l k).2 := by
  obtain ⟨h1, h2, es, hr, hb⟩ := repN_branch.1 h
  obtain ⟨e, he, vk, ⟨⟨hk1, _⟩, hen, hkr⟩, hrep⟩ := hb.at_ (kid_some hk)
  obtain ⟨q1, q2, ek, q3, q4⟩ := repN_iff.1 hrep
  exact ⟨es, e, vk, ek, h1, h2, hr, hb, he, hen, hkr, hk1, q3, q4, q2, hrep⟩
theorem r15parted_any (F : Nat → Prop) (v : NV) (p : Int) (l : List (List UInt8 × Tr)) (k : Nat) (w : World) (h : RepN F w v (.branch p l)) (hn : l.length ≤ 200) (hk : k < l.length) (hb : BndN 100 (kidT l k).2) :
    Calls Try.prog 43 #[nvV v, .int .i64 (k : Int)] w fun r w' => Below w.heap.size w w' ∧
      ((atT l k = 0 ∧ r = .returned (.tuple #[nvV v, .bool false])) ∨ (atT l k ≠ 0 ∧ ∃ v', r = .returned (.tuple #[nvV v', .bool true]) ∧ RepN (Fw F w.heap.size) w' v' (.branch 0 (splitT l k (atT l k))))) := by
  obtain ⟨es, e, vk, ek, h1, h2, hr, hbo, he, hen, hkr, hek, hkk, hck, hlf, hrep⟩ := kid_at h hk
  have hlen : es.length = l.length := hbo.1
  have hat : atZ (ek.map (szC vk.lf)) = atT l k := by rw [hlf, sizes_cells hck]; rfl
  refine (r15parted_es F v vk es ek e k w hr (by omega) he hen hkr hkk (bndC_of hb hck)).mono ?_
  rintro r w' ⟨hB, hh⟩
  rw [hat] at hh
  refine ⟨hB, hh.imp id ?_⟩
  rintro ⟨hz, ca, cb, A, c, x, rfl, hx, hrow, hca, hcb⟩
  have hmv : ∀ g, F g → g < w.heap.size → Fw F w.heap.size g ∧ w'.heap[g]? = w.heap[g]? := fun g hg hl => ⟨.inl hg, hB.block g hl⟩
  refine ⟨hz, ⟨0, false, A, es.length + 1, c⟩, rfl, repN_branch.2 ⟨rfl, rfl, _, hrow.mono (fun g hg => .inr hg), ?_⟩⟩
  have hbo' : Both (CellT (Fw F w.heap.size) w') es l := hbo.mono fun x y _ _ h => h.move hmv
  have hck' := hck.move hmv
  have hfr := kindT_front (atT l k) (kidT l k).2
  have hbk := kindT_back (atT l k) (kidT l k).2
  rw [hlf] at hca hcb
  have ha : CellT (Fw F w.heap.size) w' ca ((kidT l k).1, frontT (atT l k) (kidT l k).2) := by
    rw [hek, ← hfr.1] at hca
    exact newC_rep hca hfr.2 (fun g hg => .inr hg) (cells_front hck' _)
  have hb2 : CellT (Fw F w.heap.size) w' cb (keyT (atT l k) (kidT l k).2, backT (atT l k) (kidT l k).2) := by
    rw [cells_key hck hx] at hcb
    have hcb2 : NewC (fun g => w.heap.size ≤ g) w' cb (keyT (atT l k) (kidT l k).2) (kindT (backT (atT l k) (kidT l k).2)) (if kindT (kidT l k).2 = true then ek.drop (atT l k) else keyE [] (ek.drop (atT l k))) := by rw [hbk.1]; exact hcb
    exact newC_rep hcb2 hbk.2 (fun g hg => .inr hg) (cells_back hck' _)
  unfold splitT
  rw [List.append_assoc]
  exact (hbo'.take k).app ((Both.cons ha (Both.one hb2)).app (hbo'.drop (k + 1)))
end Go.Proofs.Ytclaiigelgbpdaa
end

section
namespace Go.Proofs.Ytclaiigelgbpdaa
open Go.RowKit
set_option linter.unusedVariables false

theorem kept15 {w w' : World} {t e : TypeId} {B b s n : Nat} {cs : Array Value} {v : Value} {ys : List Value} (h : Has w B t cs) (ho : w.ownsRow b e s v n ys) (hne : t ≠ e) (hg : w.grownBy w' v.ownBlock) : Has w' B t cs :=
  h.grown hg (fun hq => by
    rcases ho.2 with ⟨rfl, _⟩ | ⟨g', cap, cur, rfl, _, hc, _⟩
    · cases hq
    · obtain rfl : B = g' := by injection hq
      exact h.apart (show Has w B e cur from hc) hne rfl)
theorem slice15 {w : World} {B s : Nat} {e : TypeId} {v : Value} {n : Nat} {xs : List Value} (h : w.ownsRow B e s v n xs) : ∃ A c, v = .slice A n c ∧ n ≤ c ∧ c ≤ maxLen := by
  rcases h.2 with ⟨rfl, rfl⟩ | ⟨g, cap, cur, rfl, _, _, h1, h2, _⟩
  · exact ⟨none, 0, rfl, Nat.le_refl _, Nat.zero_le _⟩
  · exact ⟨_, cap, rfl, h1, h2⟩
theorem ownBelow15 {w w' : World} {b : Nat} {e : TypeId} {s n : Nat} {v : Value} {xs : List Value} (h : w.ownsRow b e s v n xs) (hb : Below w.heap.size w w') : w'.ownsRow b e s v n xs :=
  h.kept (row := none) ⟨hb.os, hb.tape, hb.output, hb.size, fun k hk _ => hb.block k hk⟩ (by
    rcases v.ownBlock with _ | g
    · exact .inl rfl
    · exact .inr (by simp))
theorem ownCell15 {w : World} {b B s n : Nat} {e t : TypeId} {v : Value} {xs : List Value} {cs : Array Value} (h : w.ownsRow b e s v n xs) (hB : Has w B t cs) (hne : t ≠ e) (i : Nat) (u : Value) : (w.setCell ⟨B, i, none⟩ u).ownsRow b e s v n xs := by
  refine h.kept (row := some B) (only_store (only_refl w B) i u) ?_
  rcases h.2 with ⟨rfl, _⟩ | ⟨g, cap, cur, rfl, _, hc, _⟩
  · exact .inl rfl
  · refine .inr (fun hq => ?_)
    obtain rfl : g = B := by injection hq
    exact hB.apart (show Has w g e cur from hc) hne rfl
structure KidC (w : World) (A : Option Addr) (i : Nat) (key : List UInt8) (kc : Nat) (v : NV) (g off kg koff : Nat) : Prop where
  row : A = some ⟨g, off, none⟩
  key : w.cell? ⟨g, off + i * 4, none⟩ = some (.string ⟨key.toArray⟩)
  kid : w.cell? ⟨g, off + i * 4 + 3, none⟩ = some (.slice (some ⟨kg, koff, none⟩) 1 kc)
  k0 : w.cell? ⟨kg, koff, none⟩ = some (.int .i64 v.p)
  k1 : w.cell? ⟨kg, koff + 1, none⟩ = some (.bool v.lf)
  k2 : w.cell? ⟨kg, koff + 2, none⟩ = some (.slice v.A v.n v.c)
theorem KidC.below {w w' : World} {A : Option Addr} {i : Nat} {key : List UInt8} {kc : Nat} {v : NV} {g off kg koff B : Nat} (h : KidC w A i key kc v g off kg koff) (hb : Below B w w') (hB : w.heap.size ≤ B) : KidC w' A i key kc v g off kg koff :=
  have hb' := hb.mono hB
  ⟨h.row, cell_below h.key hb', cell_below h.kid hb', cell_below h.k0 hb', cell_below h.k1 hb', cell_below h.k2 hb'⟩
theorem kidC_of {F G : Nat → Prop} {w : World} {A : Option Addr} {n c : Nat} {es : List CE} {e : CE} {i : Nat} {v : NV} (h : RwF F w A n c 4 (flatC es)) (he : es[i]? = some e) (hn : e.kn = 1) (hk : RwF G w e.ka 1 e.kc 3 (nvL v)) :
    ∃ g off kg koff, KidC w A i e.k e.kc v g off kg koff := by
  obtain ⟨g, off, rfl, _, q0, _, _, q3⟩ := h.at4 he
  obtain ⟨kg, koff, hka, _, hkc⟩ := hk.reads (by simp [nvL])
  rw [hka, hn] at q3
  have d0 := hkc 0 _ rfl
  simp only [Nat.add_zero] at d0
  exact ⟨g, off, kg, koff, rfl, q0, q3, d0, hkc 1 _ rfl, hkc 2 _ rfl⟩
end Go.Proofs.Ytclaiigelgbpdaa
end
