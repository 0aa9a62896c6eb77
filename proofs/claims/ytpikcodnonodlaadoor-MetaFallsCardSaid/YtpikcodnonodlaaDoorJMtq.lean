import Derived.Test.YtpikcodnonodlaaDoorJ11
import Derived.Test.YtpikcodnonodlaaDoorJMeOth
/- Of a claim's texts, joined: Mtq. No statement but in the last. -/
namespace Go.Proofs.YtpikcodnonodlaaDoor
open Go.RowKit
set_option linter.unusedVariables false

theorem xor_eight (x : UInt8) : bits .xor .u8 (x.toNat : Int) 8 = ((x ^^^ 8).toNat : Int) := by
  have h := u8_xor_nat x.toNat 8 x.toNat_lt (by decide)
  rw [UInt8.toNat_xor]
  exact h
structure PgAt (w : World) (g off c : Nat) (l : List UInt8) : Prop where
  len : l.length = 128
  room : 128 ≤ c
  most : c ≤ maxLen
  lies : ∃ cs, Has w g 5 cs ∧ ∀ j u, (l.map byteV)[j]? = some u → cs[off + j]? = some u
theorem PgAt.arg {w : World} {g off c : Nat} {l : List UInt8} (h : PgAt w g off c l) : Arg w (some ⟨g, off, none⟩) 128 c l := by
  obtain ⟨cs, hH, hc⟩ := h.lies
  refine ⟨h.len.symm, fun _ => ⟨g, off, rfl, fun j u hj => by rw [hH.cell]; exact hc j u hj⟩, fun _ a ha => ?_, h.room, h.most, fun h => by cases h⟩
  injection ha with ha
  subst ha
  exact hH.lt
theorem PgAt.lt {w : World} {g off c : Nat} {l : List UInt8} (h : PgAt w g off c l) : g < w.heap.size := by
  obtain ⟨cs, hH, _⟩ := h.lies
  exact hH.lt
theorem PgAt.below {w w' : World} {g off c : Nat} {l : List UInt8} (h : PgAt w g off c l) (hb : Below w.heap.size w w') : PgAt w' g off c l := by
  obtain ⟨cs, hH, hc⟩ := h.lies
  exact ⟨h.len, h.room, h.most, cs, hH.below hb hH.lt, hc⟩
theorem PgAt.drew {w : World} {g off c : Nat} {l : List UInt8} (h : PgAt w g off c l) : PgAt w.drew g off c l := ⟨h.len, h.room, h.most, h.lies⟩
theorem PgAt.away {w : World} {g off c : Nat} {l : List UInt8} (h : PgAt w g off c l) {p : Addr} (hp : g ≠ p.block) (u : Value) : PgAt (w.setCell p u) g off c l := by
  obtain ⟨cs, hH, hc⟩ := h.lies
  exact ⟨h.len, h.room, h.most, cs, hH.away hp u, hc⟩
theorem PgAt.apart {w : World} {g off c q : Nat} {l : List UInt8} {t : TypeId} {cs : Array Value} (h : PgAt w g off c l) (hq : Has w q t cs) (hne : t ≠ 5) : q ≠ g := by
  obtain ⟨cs', hH, _⟩ := h.lies
  exact hq.apart hH hne
theorem PgAt.at {w : World} {g off c : Nat} {l : List UInt8} (h : PgAt w g off c l) (k : Nat) (hk : k < l.length) : w.cell? ⟨g, off + k, none⟩ = some (.int .u8 ((l[k]).toNat : Int)) ∧ w.frozen? ⟨g, off + k, none⟩ = false := by
  obtain ⟨cs, hH, hc⟩ := h.lies
  exact ⟨by rw [hH.cell]; exact hc k (byteV l[k]) (by rw [List.getElem?_map, List.getElem?_eq_getElem hk]; rfl), hH.free _⟩
theorem PgAt.turn {w : World} {g off c : Nat} {l : List UInt8} (h : PgAt w g off c l) (k : Nat) (hk : k < l.length) (x : UInt8) : PgAt (w.setCell ⟨g, off + k, none⟩ (.int .u8 (x.toNat : Int))) g off c (l.set k x) := by
  obtain ⟨cs, hH, hc⟩ := h.lies
  refine ⟨by rw [List.length_set]; exact h.len, h.room, h.most, _, hH.store (off + k) (.int .u8 (x.toNat : Int)), fun j u hj => ?_⟩
  have hx := hc k (byteV l[k]) (by rw [List.getElem?_map, List.getElem?_eq_getElem hk]; rfl)
  rw [List.getElem?_map] at hj
  by_cases hjk : j = k
  · subst hjk
    rw [List.getElem?_set_self hk] at hj
    have hlt : off + j < cs.size := (Array.getElem?_eq_some_iff.1 hx).1
    rw [Array.getElem?_setIfInBounds_self_of_lt hlt]
    exact hj
  · rw [List.getElem?_set_ne (fun e => hjk e.symm), ← List.getElem?_map] at hj
    rw [Array.getElem?_setIfInBounds_ne (by omega)]
    exact hc j u hj
theorem page_at {w : World} {lo c : Nat} {A : Option Addr} {l : List UInt8} (h : Row w 5 lo A (l.map byteV)) (ha : Arg w A 128 c l) : ∃ g off, A = some ⟨g, off, none⟩ ∧ lo ≤ g ∧ PgAt w g off c l := by
  obtain ⟨g, off, cs, rfl, hlo, hH, hcs⟩ := h (by rw [List.length_map, ← ha.len]; omega)
  exact ⟨g, off, rfl, hlo, ha.len.symm, ha.room, ha.most, cs, hH, hcs⟩
structure Fa (w : World) (b0 N P : Nat) (cm cn cp : Array Value) (g1 o1 c1 : Nat) (l1 : List UInt8) (g2 o2 c2 : Nat) (l2 : List UInt8) : Prop where
  hm : Has w b0 24 cm
  hn : Has w N 24 cn
  hp : Has w P 26 cp
  p1 : PgAt w g1 o1 c1 l1
  p2 : PgAt w g2 o2 c2 l2
theorem Fa.below {w w' : World} {b0 N P : Nat} {cm cn cp : Array Value} {g1 o1 c1 : Nat} {l1 : List UInt8} {g2 o2 c2 : Nat} {l2 : List UInt8} (h : Fa w b0 N P cm cn cp g1 o1 c1 l1 g2 o2 c2 l2) (hb : Below w.heap.size w w') : Fa w' b0 N P cm cn cp g1 o1 c1 l1 g2 o2 c2 l2 :=
  ⟨h.hm.below hb h.hm.lt, h.hn.below hb h.hn.lt, h.hp.below hb h.hp.lt, h.p1.below hb, h.p2.below hb⟩
theorem Fa.drew {w : World} {b0 N P : Nat} {cm cn cp : Array Value} {g1 o1 c1 : Nat} {l1 : List UInt8} {g2 o2 c2 : Nat} {l2 : List UInt8} (h : Fa w b0 N P cm cn cp g1 o1 c1 l1 g2 o2 c2 l2) : Fa w.drew b0 N P cm cn cp g1 o1 c1 l1 g2 o2 c2 l2 :=
  ⟨h.hm, h.hn, h.hp, h.p1.drew, h.p2.drew⟩
theorem Fa.turn1 {w : World} {b0 N P : Nat} {cm cn cp : Array Value} {g1 o1 c1 : Nat} {l1 : List UInt8} {g2 o2 c2 : Nat} {l2 : List UInt8} (h : Fa w b0 N P cm cn cp g1 o1 c1 l1 g2 o2 c2 l2) (hne : g1 ≠ g2) (k : Nat) (hk : k < l1.length) (x : UInt8) :
    Fa (w.setCell ⟨g1, o1 + k, none⟩ (.int .u8 (x.toNat : Int))) b0 N P cm cn cp g1 o1 c1 (l1.set k x) g2 o2 c2 l2 :=
  ⟨h.hm.away (h.p1.apart h.hm (by decide)) _, h.hn.away (h.p1.apart h.hn (by decide)) _, h.hp.away (h.p1.apart h.hp (by decide)) _, h.p1.turn k hk x, h.p2.away (fun e => hne e.symm) _⟩
theorem Fa.turn2 {w : World} {b0 N P : Nat} {cm cn cp : Array Value} {g1 o1 c1 : Nat} {l1 : List UInt8} {g2 o2 c2 : Nat} {l2 : List UInt8} (h : Fa w b0 N P cm cn cp g1 o1 c1 l1 g2 o2 c2 l2) (hne : g1 ≠ g2) (k : Nat) (hk : k < l2.length) (x : UInt8) :
    Fa (w.setCell ⟨g2, o2 + k, none⟩ (.int .u8 (x.toNat : Int))) b0 N P cm cn cp g1 o1 c1 l1 g2 o2 c2 (l2.set k x) :=
  ⟨h.hm.away (h.p2.apart h.hm (by decide)) _, h.hn.away (h.p2.apart h.hn (by decide)) _, h.hp.away (h.p2.apart h.hp (by decide)) _, h.p1.away hne _, h.p2.turn k hk x⟩
theorem Fa.box {w : World} {b0 N P q : Nat} {cm cn cp cs : Array Value} {g1 o1 c1 : Nat} {l1 : List UInt8} {g2 o2 c2 : Nat} {l2 : List UInt8} (h : Fa w b0 N P cm cn cp g1 o1 c1 l1 g2 o2 c2 l2) (hq : Has w q 24 cs) (h0 : b0 ≠ q) (hN : N ≠ q) (v0 v1 v2 v3 v4 : Value) : Fa (stM5 w q v0 v1 v2 v3 v4) b0 N P cm cn cp g1 o1 c1 l1 g2 o2 c2 l2 := by
  have hP : P ≠ q := h.hp.apart hq (by decide)
  have h1 : g1 ≠ q := fun e => h.p1.apart hq (by decide) e.symm
  have h2 : g2 ≠ q := fun e => h.p2.apart hq (by decide) e.symm
  exact ⟨h.hm.setM_away h0 _ _ _ _ _, h.hn.setM_away hN _ _ _ _ _, h.hp.setM_away hP _ _ _ _ _,
    ((((h.p1.away (p := ⟨q, 0, none⟩) h1 v0).away (p := ⟨q, 1, none⟩) h1 v1).away (p := ⟨q, 2, none⟩) h1 v2).away (p := ⟨q, 3, none⟩) h1 v3).away (p := ⟨q, 4, none⟩) h1 v4,
    ((((h.p2.away (p := ⟨q, 0, none⟩) h2 v0).away (p := ⟨q, 1, none⟩) h2 v1).away (p := ⟨q, 2, none⟩) h2 v2).away (p := ⟨q, 3, none⟩) h2 v3).away (p := ⟨q, 4, none⟩) h2 v4⟩

/-! The version ahead. -/
def nowM (m : Mt) (t : Nat) : Mt := ⟨m.label, t, 0, m.list, m.high⟩
theorem nowM_ok {m : Mt} (h : checkM m) {t : Nat} (ht : 0 < t) : checkM (nowM m t) := ⟨h.1, h.2.1, ht, h.2.2.2.1, h.2.2.2.2.1, Or.inl rfl, h.2.2.2.2.2.2.1, Or.inr rfl⟩
theorem falls1 {m : Mt} (h : checkM m) (tm : m.txn + 1 < 18446744073709551616) : (m.txn % 2 = 0 → newestM (pageM m) (pageM (nowM m (m.txn + 1))) m.label = (nowM m (m.txn + 1), true)) ∧ (m.txn % 2 = 1 → newestM (pageM (nowM m (m.txn + 1))) (pageM m) m.label = (nowM m (m.txn + 1), true)) := by
  have hn := nowM_ok h (t := m.txn + 1) (by omega)
  have e : ∀ slot, (m.txn + 1) % 2 = slot → countM (pageM (nowM m (m.txn + 1))) slot m.label = (nowM m (m.txn + 1), true) := fun slot hs => count_own hn tm hs
  constructor
  · intro hs
    unfold newestM
    rw [count_own h (by omega) hs, e 1 (by omega)]
    unfold newerM
    exact if_pos ⟨rfl, Or.inr (Nat.lt_succ_self _)⟩
  · intro hs
    unfold newestM
    rw [count_own h (by omega) hs, e 0 (by omega)]
    unfold newerM
    refine if_neg ?_
    rintro ⟨_, h2 | h2⟩
    · cases h2
    · exact absurd h2 (by show ¬ m.txn + 1 < m.txn; omega)
theorem falls2 {m : Mt} (h : checkM m) (tm : m.txn < 18446744073709551616) {l : List UInt8} (hl : ¬ isTag l) : (m.txn % 2 = 0 → newestM (pageM m) l m.label = (m, true)) ∧ (m.txn % 2 = 1 → newestM l (pageM m) m.label = (m, true)) := by
  constructor
  · intro hs
    unfold newestM
    rw [count_own h tm hs, countM_bad hl, newer_no]
  · intro hs
    unfold newestM
    rw [count_own h tm hs, countM_bad hl, newer_first _ (fun h => by cases h)]
theorem falls3 {a b : List UInt8} (ha : ¬ isTag a) (hb : ¬ isTag b) (lab : Int) : newestM a b lab = (mt0, false) := by
  unfold newestM
  rw [countM_bad ha, countM_bad hb, newer_no]
theorem make_pages (w : World) : (Instr.makeSlice 46 (.int .i64 2) (.int .i64 2)).run Tryd.prog w = .ok (.slice (some ⟨w.heap.size, 0, none⟩) 2 2) (w.alloc (.cells #[.slice none 0 0, .slice none 0 0] 26)) := by
  kernel_rfl
end Go.Proofs.YtpikcodnonodlaaDoor
