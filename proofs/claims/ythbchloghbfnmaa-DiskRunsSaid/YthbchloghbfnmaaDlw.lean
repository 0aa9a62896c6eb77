/- The laws of layer 6: a disk among others, step by step: no statement. -/
import Derived.Test.YthbchloghbfnmaaDpg
namespace Go.Proofs.Ythbchloghbfnmaa
open Go.RowKit
set_option linter.unusedVariables false

/-- A disk, of whose regions none has more than N loose writes; marked blocks lie from w0's end on. -/
structure Dz (w0 w : World) (T : Tg) (d D A N : Nat) (rs : List Rg) : Prop where
  dk : Dk w T d D A rs
  lo : Lo w0.heap.size T w
  bel : Below w0.heap.size w0 w
  few : ∀ r ∈ rs, r.loose.length ≤ N
/-- A block that no disk has. -/
structure Bk (w : World) (T : Tg) (g : Nat) (t : TypeId) (cs : Array Value) : Prop where
  has : Has w g t cs
  un : T g = none
theorem Bk.tn {w w' : World} {T T' : Tg} {d g : Nat} {t : TypeId} {cs : Array Value} (h : Bk w T g t cs) (k : Tn T d w T' w') : Bk w' T' g t cs :=
  ⟨(k.block g h.has.lt (fun j hj => by rw [h.un] at hj; cases hj)).trans h.has, (k.old g h.has.lt).trans h.un⟩
theorem Bk.below {w w' : World} {T : Tg} {g : Nat} {t : TypeId} {cs : Array Value} (h : Bk w T g t cs) (hb : Below w.heap.size w w') : Bk w' T g t cs := ⟨h.has.below hb h.has.lt, h.un⟩
theorem Lo.un {W0 : Nat} {T : Tg} {w : World} (h : Lo W0 T w) {g : Nat} (hg : w.heap.size ≤ g) : T g = none := by
  cases e : T g with
  | none => rfl
  | some t => have := (h g t e).2; omega
theorem few_set {rs : List Rg} {N i : Nat} {r' : Rg} (h : ∀ r ∈ rs, r.loose.length ≤ N) (h' : r'.loose.length ≤ N) : ∀ r ∈ rs.set i r', r.loose.length ≤ N := fun r hr => by
  rcases List.mem_or_eq_of_mem_set hr with hr | rfl
  · exact h r hr
  · exact h'
theorem few_wrA {rs : List Rg} {N : Nat} (h : ∀ r ∈ rs, r.loose.length ≤ N) (x p : Int) (l : List UInt8) : ∀ r ∈ (wrA rs x p l).1, r.loose.length ≤ N + 1 := by
  have h1 : ∀ r ∈ rs, r.loose.length ≤ N + 1 := fun r hr => Nat.le_succ_of_le (h r hr)
  unfold wrA
  split
  · exact h1
  · rename_i r hr
    have hm := h r (List.mem_of_getElem? (regN_some hr).2.2)
    split
    · exact h1
    · split
      · split
        · split
          · exact few_set h1 (by rw [cntR_loose]; omega)
          · exact few_set h1 (by simp only [wrR, List.length_append, cntR_loose, List.length_cons, List.length_nil]; omega)
        · exact h1
      · exact h1
theorem few_syA {rs : List Rg} {N : Nat} (h : ∀ r ∈ rs, r.loose.length ≤ N) (x : Int) : ∀ r ∈ (syA rs x).1, r.loose.length ≤ N := by
  unfold syA
  split
  · exact h
  · rename_i r hr
    have hm := h r (List.mem_of_getElem? (regN_some hr).2.2)
    split
    · exact h
    · split
      · exact few_set h (by rw [cntR_loose]; omega)
      · exact few_set h (by simp [setR])
theorem few_stA {rs : List Rg} {N : Nat} (h : ∀ r ∈ rs, r.loose.length ≤ N) (x a : Int) : ∀ r ∈ stA rs x a, r.loose.length ≤ N := by
  unfold stA
  split
  · exact h
  · rename_i r hr
    exact few_set h (h r (List.mem_of_getElem? (regN_some hr).2.2))
theorem few_crA {rs : List Rg} {N : Nat} (ks : List (List UInt8)) : ∀ r ∈ crA ks rs, r.loose.length ≤ N := fun r hr => by
  obtain ⟨i, hi⟩ := List.mem_iff_getElem?.1 hr
  simp only [crA, List.getElem?_mapIdx] at hi
  cases hq : rs[i]? with
  | none => simp [hq] at hi
  | some x =>
    simp only [hq, Option.map_some, Option.some.injEq] at hi
    subst hi
    simp [crOne, upR, setR]
theorem set_len_wrA (rs : List Rg) (x p : Int) (l : List UInt8) : (wrA rs x p l).1.length = rs.length := by
  unfold wrA
  repeat' split
  all_goals simp
theorem set_len_syA (rs : List Rg) (x : Int) : (syA rs x).1.length = rs.length := by
  unfold syA
  repeat' split
  all_goals simp
theorem set_len_stA (rs : List Rg) (x a : Int) : (stA rs x a).length = rs.length := by
  unfold stA
  repeat' split
  all_goals simp
theorem set_len_crA (rs : List Rg) (ks : List (List UInt8)) : (crA ks rs).length = rs.length := by simp [crA]
section
variable {w0 w : World} {T : Tg} {d D A N : Nat} {rs : List Rg}
theorem Dz.below {w' : World} (h : Dz w0 w T d D A N rs) (hb : Below w.heap.size w w') : Dz w0 w' T d D A N rs := ⟨h.dk.below hb, h.lo.below hb.size, below_step h.bel hb, h.few⟩
theorem Dz.more (h : Dz w0 w T d D A N rs) {M : Nat} (hm : N ≤ M) : Dz w0 w T d D A M rs := ⟨h.dk, h.lo, h.bel, fun r hr => Nat.le_trans (h.few r hr) hm⟩
theorem Dz.other {w' : World} {T' : Tg} {d2 : Nat} (h : Dz w0 w T d D A N rs) (k : Tn T d2 w T' w') (hd : d ≠ d2) : Dz w0 w' T' d D A N rs :=
  ⟨h.dk.other k hd, k.lo h.lo h.bel.size, h.bel.trans (k.low h.lo h.bel.size), h.few⟩
theorem Dz.next {w' : World} {T' : Tg} {M : Nat} {rs' : List Rg} (h : Dz w0 w T d D A N rs) (k : Tn T d w T' w') (hd : Dk w' T' d D A rs') (hf : ∀ r ∈ rs', r.loose.length ≤ M) : Dz w0 w' T' d D A M rs' :=
  ⟨hd, k.lo h.lo h.bel.size, h.bel.trans (k.low h.lo h.bel.size), hf⟩
def DzEnd (res : Value) (w0 w : World) (T : Tg) (d D A N : Nat) (rs : List Rg) (e : Ending) (w' : World) : Prop := e = .returned res ∧ ∃ T', Dz w0 w' T' d D A N rs ∧ Tn T d w T' w'
theorem Write_z (x p : Int) (l : List UInt8) (g : Nat) (h : Dz w0 w T d D A N rs) (hN : N ≤ 1000) (hg : Bk w T g 5 (l.map byteV).toArray) :
    Calls Try.prog 12 #[.pointer (some ⟨D, 0, none⟩), .int .i64 x, .int .i64 p, .slice (some ⟨g, 0, none⟩) l.length l.length] w (DzEnd (.int .i64 (wrA rs x p l).2) w0 w T d D A (N + 1) (wrA rs x p l).1) :=
  (Write_any x p l (some ⟨g, 0, none⟩) l.length l.length h.dk h.lo.lt rfl (fun hx => ⟨g, 0, rfl, fun j u hj => by rw [hg.has.cell, Nat.zero_add]; simpa using hj⟩) (Nat.le_refl _)
    (fun a ha k hk => by injection ha with ha; subst ha; rw [hg.un] at hk; cases hk) (fun r hr => Nat.le_trans (h.few r hr) hN)).mono fun e w' ⟨he, T', hd, ht⟩ => ⟨he, T', h.next ht hd (few_wrA h.few x p l), ht⟩
theorem Sync_z (x : Int) (h : Dz w0 w T d D A N rs) (hN : N ≤ 1000) : Calls Try.prog 15 #[.pointer (some ⟨D, 0, none⟩), .int .i64 x] w (DzEnd (.int .i64 (syA rs x).2) w0 w T d D A N (syA rs x).1) :=
  (Sync_any x h.dk h.lo.lt (fun r hr => Nat.le_trans (h.few r hr) hN)).mono fun e w' ⟨he, T', hd, ht⟩ => ⟨he, T', h.next ht hd (few_syA h.few x), ht⟩
theorem Stop_z (x a : Int) (h : Dz w0 w T d D A N rs) (ha : a ≤ 9223372036854775807) : Calls Try.prog 17 #[.pointer (some ⟨D, 0, none⟩), .int .i64 x, .int .i64 a] w (DzEnd (.tuple #[]) w0 w T d D A N (stA rs x a)) :=
  (Stop_any x a h.dk h.lo.lt ha).mono fun e w' ⟨he, T', hd, ht⟩ => ⟨he, T', h.next ht hd (few_stA h.few x a), ht⟩
theorem Crash_z (Ak : Option Addr) (n c : Nat) (ks : List (List UInt8)) (h : Dz w0 w T d D A N rs) (hN : N ≤ 1000) (hk : Txts w Ak n ks) (hT : 0 < n → ∀ a, Ak = some a → T a.block = none) (hl : rs.length ≤ 1000) :
    Calls Try.prog 19 #[.pointer (some ⟨D, 0, none⟩), .slice Ak n c] w (DzEnd (.tuple #[]) w0 w T d D A N (crA ks rs)) := by
  refine (Crash_any Ak n c ks h.dk h.lo.lt hk ?_ (fun r hr => Nat.le_trans (h.few r hr) hN) hl).mono fun e w' ⟨he, T', hd, ht⟩ => ⟨he, T', h.next ht hd (few_crA ks), ht⟩
  intro h0 a ha j hj
  rw [hT h0 a ha] at hj
  cases hj
theorem Read_z (x p : Int) (h : Dz w0 w T d D A N rs) : Calls Try.prog 21 #[.pointer (some ⟨D, 0, none⟩), .int .i64 x, .int .i64 p] w (RdEnd (rdL rs x p) (rdE rs x p) w) := Read_any x p h.dk
theorem Loose_z (x : Int) (h : Dz w0 w T d D A N rs) (hN : N ≤ 1000) : Calls Try.prog 25 #[.pointer (some ⟨D, 0, none⟩), .int .i64 x] w (IntsOut (looL rs x) w) := Loose_any x h.dk (fun r hr => Nat.le_trans (h.few r hr) hN)
theorem New_z {A0 : Option Addr} {n c : Nat} {ls : List Int} (d : Nat) (h : Ints6 w A0 n ls) (hlo : Lo w0.heap.size T w) (hb : Below w0.heap.size w0 w) (hn : newB ls = true) :
    Calls Try.prog 10 #[.slice A0 n c] w fun e w' => ∃ D A T', e = .returned (.tuple #[.pointer (some ⟨D, 0, none⟩), .int .i64 0]) ∧ Dz w0 w' T' d D A 0 (ls.map fun x => fresh6 x.toNat) ∧ Tn T d w T' w' ∧ Below w.heap.size w w' :=
  (New_ok (T := T) (d := d) A0 n c ls h hlo.lt hn).mono fun e w' ⟨D, A, T', he, hd, ht, hbb⟩ => ⟨D, A, T', he, ⟨hd, ht.lo hlo hb.size, below_step hb hbb, fun r hr => by
    obtain ⟨x, _, rfl⟩ := List.mem_map.1 hr
    simp [fresh6]⟩, ht, hbb⟩
end
/-- Nothing is marked. -/
def noT : Tg := fun _ => none
theorem lo_none (W0 : Nat) (w : World) : Lo W0 noT w := fun x t h => by cases h
theorem ints_lit (w : World) (l : List Int) (o : Obj) (ho : o = .cells (l.map (Value.int .i64)).toArray 3) : Ints6 (w.alloc o) (some ⟨w.heap.size, 0, none⟩) l.length l := by
  subst ho
  refine ⟨rfl, fun hx => ⟨w.heap.size, 0, rfl, fun j u hj => ?_⟩⟩
  have := (Has.made w 3 (l.map (Value.int .i64)).toArray).cell (0 + j)
  exact this.trans (by simpa using hj)

end Go.Proofs.Ythbchloghbfnmaa
