import Derived.Test.YtpaklhifnndeoaaJ00
import Derived.Test.YtpaklhifnndeoaaJ01
import Derived.StillTail
import Derived.Test.YtpaklhifnndeoaaJ03
import Derived.Deep.AppendLies
/- Of a claim's texts, joined: Ndr Ndd Cta Tru Rdk Trh Tri Trk Trj Tpe. No statement but in the last. -/
section
namespace Go.Proofs.Ytpaklhifnndeoaa
open Go.RowKit
theorem retb {a b : Bool} (h : a = b) : Ending.returned (.bool a) = .returned (.bool b) := by rw [h]
end Go.Proofs.Ytpaklhifnndeoaa
end

section
namespace Go.Proofs.Ytpaklhifnndeoaa
open Go.RowKit
set_option linter.unusedVariables false

def lgB (z : Int) : Bool := decide (16 < z) && decide (z ≤ 400)
def needN (z : Int) : Nat := if 16 < z ∧ z ≤ 400 then (z.toNat + 118) / 119 else 0
theorem lg_need (z : Int) : lgB z = true ↔ needN z ≠ 0 := by
  unfold lgB needN
  by_cases h : 16 < z ∧ z ≤ 400
  · rw [if_pos h]
    simp only [h.1, h.2, decide_true, Bool.and_self, true_iff]
    omega
  · rw [if_neg h]
    simp only [ne_eq, not_true_eq_false, iff_false, Bool.and_eq_true, decide_eq_true_eq]
    exact h
theorem need_pos {z : Int} (h : lgB z = true) : needN z = (z.toNat + 118) / 119 ∧ 16 < z ∧ z ≤ 400 := by
  unfold lgB at h
  simp only [Bool.and_eq_true, decide_eq_true_eq] at h
  unfold needN
  rw [if_pos h]
  exact ⟨rfl, h⟩
theorem need_no {z : Int} (h : lgB z = false) : needN z = 0 := by
  by_cases h0 : needN z = 0
  · exact h0
  · rw [(lg_need z).2 h0] at h
    cases h
theorem reti {a b : Int} (h : a = b) : Ending.returned (.int .i64 a) = .returned (.int .i64 b) := by rw [h]
theorem isLong_any (z : Int) (w : World) : Calls Try.prog 102 #[.int .i64 z] w fun e w' => e = .returned (.bool (lgB z)) ∧ w = w' := by
  unfold lgB
  by_cases h0 : 16 < z
  · by_cases h1 : z ≤ 400
    · go_enter Try.func102, Try.ntmps102
      go_wp2
      go_ret
      exact ⟨retb (by simp; omega), rfl⟩
    · go_enter Try.func102, Try.ntmps102
      go_wp2
      go_ret
      exact ⟨retb (by simp; omega), rfl⟩
  · go_enter Try.func102, Try.ntmps102
    go_wp2
    go_ret
    exact ⟨retb (by simp; omega), rfl⟩
theorem hNeed_any (z : Int) (w : World) : Calls Try.prog 97 #[.int .i64 z] w fun e w' => e = .returned (.int .i64 (needN z : Int)) ∧ w = w' := by
  have HL := Lib.hid (isLong_any z w)
  cases h : lgB z
  · rw [h] at HL
    rw [need_no h]
    go_enter Try.func97, Try.ntmps97
    go_wp2_with (go_at_call 102; (with_reducible refine HL.out.mono ?_); rintro e w1 ⟨rfl, rfl⟩)
    go_ret
    exact ⟨rfl, rfl⟩
  · rw [h] at HL
    obtain ⟨e, h1, h2⟩ := need_pos h
    have HE := Lib.hid e
    clear e
    obtain ⟨n, rfl⟩ : ∃ n : Nat, z = (n : Int) := ⟨z.toNat, by omega⟩
    go_enter Try.func97, Try.ntmps97
    go_wp2_with (go_at_call 102; (with_reducible refine HL.out.mono ?_); rintro e w1 ⟨rfl, rfl⟩)
    go_ret
    exact ⟨reti (by rw [HE.out]; simp only [Int.toNat_natCast]; omega), rfl⟩
end Go.Proofs.Ytpaklhifnndeoaa
end

section
namespace Go.Proofs.Ytpaklhifnndeoaa
open Go.RowKit
set_option linter.unusedVariables false

theorem RowZ.front {w : World} {A : Option Addr} {n c : Nat} {l : List Int} (h : RowZ w A n c l) {k : Nat} (hk : k ≤ n) : RowZ w A k c (l.take k) := by
  refine ⟨by rw [List.length_take, ← h.len]; omega, fun hx => ?_, h.nil, by have := h.room; omega, h.most⟩
  rw [List.length_map, List.length_take] at hx
  obtain ⟨g, off, hA, hr⟩ := h.reads (by rw [List.length_map]; omega)
  refine ⟨g, off, hA, fun j u hj => hr j u ?_⟩
  rw [List.map_take, List.getElem?_take] at hj
  split at hj
  · exact hj
  · cases hj
theorem RowZ.back {w : World} {A : Option Addr} {n c : Nat} {l : List Int} (h : RowZ w A n c l) {k : Nat} (hk : k ≤ n) : RowZ w (if c = k then A else A.map (·.add k)) (n - k) (c - k) (l.drop k) := by
  refine ⟨by rw [List.length_drop, h.len], h.reads.dropZ h.len h.room hk, fun e => ?_, by have := h.room; omega, by have := h.most; omega⟩
  rcases A with _ | a
  · have := h.nil rfl
    omega
  · split at e <;> cases e
def SizZ (l : List Int) : Prop := (∀ x ∈ l, 0 ≤ x ∧ x ≤ 1000) ∧ l.length ≤ 101
theorem SizZ.front {l : List Int} (h : SizZ l) (k : Nat) : SizZ (l.take k) := ⟨fun x hx => h.1 x (List.mem_of_mem_take hx), by rw [List.length_take]; have := h.2; omega⟩
theorem SizZ.back {l : List Int} (h : SizZ l) (k : Nat) : SizZ (l.drop k) := ⟨fun x hx => h.1 x (List.mem_of_mem_drop hx), by rw [List.length_drop]; have := h.2; omega⟩
theorem SizZ.sum {l : List Int} (h : SizZ l) : 0 ≤ sumZ l ∧ sumZ l ≤ 101000 := by
  refine ⟨sumZ_pos (fun x hx => (h.1 x hx).1), ?_⟩
  have h1 := sumZ_most (l := l) (b := 1000) (fun x hx => (h.1 x hx).2)
  have h2 := h.2
  omega
theorem sumZ_take {l : List Int} (h : SizZ l) (k : Nat) : 0 ≤ sumZ (l.take k) ∧ sumZ (l.take k) ≤ 101000 := (h.front k).sum
def fewZ (l : List Int) : Bool := l.all (fun x => decide (0 ≤ x) && decide (x ≤ 1000)) && decide (l.length ≤ 100)
end Go.Proofs.Ytpaklhifnndeoaa
end

section
namespace Go.Proofs.Ytpaklhifnndeoaa
open Go.RowKit
set_option linter.unusedVariables false

def szC (lf : Bool) (e : CE) : Int := if lf = true then 3 + (e.k.length : Int) + (if 16 < e.d.length then 4 else (e.d.length : Int)) else 4 + (e.k.length : Int)
def BndC (es : List CE) : Prop := es.length ≤ 100 ∧ ∀ e ∈ es, e.k.length ≤ 500 ∧ e.d.length ≤ 1000
end Go.Proofs.Ytpaklhifnndeoaa
end

section
namespace Go.Proofs.Ytpaklhifnndeoaa
open Go.RowKit
set_option linter.unusedVariables false

section
variable {P : Program} {ops : Array Oper} {Q : Exit → Act → World → Prop} {md : Region.Mode} {C : World → Prop} {k : Nat}
def wpAnyK (P : Program) (md : Region.Mode) (ops : Array Oper) (Q : Exit → Act → World → Prop) (C : World → Prop) (k : Nat) : Nat → Array Bool → Act → World → Prop
  | 0, listed, a, w => Region.ready md ops listed = [] ∧ Q .normal a w
  | fuel + 1, listed, a, w =>
    (Region.ready md ops listed = [] → Q .normal a w) ∧
    ∀ i ∈ Region.ready md ops listed, wpOp P ops Q i (fun a' w' => ((listed.setIfInBounds i true).getD k false = true ∨ C w') ∧ wpAnyK P md ops Q C k fuel (listed.setIfInBounds i true) a' w') a w
theorem ready_waits {i : Nat} {oj : Oper} {listed : Array Bool} (hr : i ∈ Region.ready md ops listed) (hall : ∀ e ∈ oj.after, Region.binds md e = true → listed.getD e.on false = true) : ∀ e ∈ oj.after, Region.binds md e = true → e.on ≠ i := fun e he hb heq => by
  have h1 := hall e he hb
  have h0 := (mem_ready.1 hr).1
  rw [heq] at h1
  rcases Nat.lt_or_ge i listed.size with h' | h'
  · simp [h'] at h0 h1; rw [h0] at h1; cases h1
  · simp [Array.getElem?_eq_none h'] at h1
end

end Go.Proofs.Ytpaklhifnndeoaa
end

section
namespace Go.Proofs.Ytpaklhifnndeoaa
open Go.RowKit
set_option linter.unusedVariables false

def stN (w : World) (B : Nat) (v0 v1 v2 : Value) : World := ((w.setCell ⟨B, 0, none⟩ v0).setCell ⟨B, 1, none⟩ v1).setCell ⟨B, 2, none⟩ v2
theorem Has.setN {w : World} {B : Nat} {t : TypeId} {a0 a1 a2 : Value} (h : Has w B t #[a0, a1, a2]) (v0 v1 v2 : Value) : Has (stN w B v0 v1 v2) B t #[v0, v1, v2] := by
  have := ((h.store 0 v0).store 1 v1).store 2 v2
  simpa [stN] using this
theorem below_setN {b B : Nat} {a w : World} (h : Below b a w) (hB : b ≤ B) (v0 v1 v2 : Value) : Below b a (stN w B v0 v1 v2) :=
  ((h.setCell (p := ⟨B, 0, none⟩) hB v0).setCell (p := ⟨B, 1, none⟩) hB v1).setCell (p := ⟨B, 2, none⟩) hB v2
theorem heap_setN (w : World) (B : Nat) (v0 v1 v2 : Value) (g : Nat) (h : g ≠ B) : (stN w B v0 v1 v2).heap[g]? = w.heap[g]? :=
  (Below.heap_setCell _ ⟨B, 2, none⟩ v2 g h).trans ((Below.heap_setCell _ ⟨B, 1, none⟩ v1 g h).trans (Below.heap_setCell w ⟨B, 0, none⟩ v0 g h))
def keyE (s : List UInt8) : List CE → List CE
  | [] => []
  | e :: l => { e with k := s } :: l
def NewC (F : Nat → Prop) (w : World) (e : CE) (key : List UInt8) (lf : Bool) (l : List CE) : Prop :=
  (e.k = key ∧ e.d = [] ∧ e.pa = none ∧ e.pn = 0 ∧ e.pc = 0) ∧ e.kn = 1 ∧ ∃ v : NV, (v.p = 0 ∧ v.lf = lf) ∧ RwF F w e.ka 1 e.kc 3 (nvL v) ∧ RwF F w v.A v.n v.c 4 (flatC l)
def PartE (es ek : List CE) (k at_ n : Nat) (key : List UInt8) (lf : Bool) (bl : List CE) (B : Nat) (w : World) (r : Ending) (w' : World) : Prop :=
  Below B w w' ∧ ∃ ca cb A c x, r = .returned (.tuple #[.agg #[.int .i64 0, .bool false, .slice A (n + 1) c], .bool true]) ∧ ek[at_]? = some x ∧
    RwF (fun g => B ≤ g) w' A (n + 1) c 4 (flatC (es.take k ++ ([ca, cb] ++ es.drop (k + 1)))) ∧ NewC (fun g => B ≤ g) w' ca key lf (ek.take at_) ∧ NewC (fun g => B ≤ g) w' cb x.k lf bl
end Go.Proofs.Ytpaklhifnndeoaa
end

section
namespace Go.Proofs.Ytpaklhifnndeoaa
open Go.RowKit
set_option linter.unusedVariables false

def BndN (m : Nat) : Tr → Prop
  | .leaf _ l => l.length ≤ m ∧ ∀ x ∈ l, x.k.length ≤ 500 ∧ x.d.length ≤ 1000
  | .branch _ l => l.length ≤ m ∧ ∀ x ∈ l, x.1.length ≤ 500
theorem BndN.mono {m n : Nat} {t : Tr} (h : BndN m t) (hmn : m ≤ n) : BndN n t := by
  cases t <;> exact ⟨Nat.le_trans h.1 hmn, h.2⟩
def Fw (F : Nat → Prop) (B : Nat) : Nat → Prop := fun g => F g ∨ B ≤ g
end Go.Proofs.Ytpaklhifnndeoaa
end

section
namespace Go.Proofs.Ytpaklhifnndeoaa
open Go.RowKit
set_option linter.unusedVariables false

theorem kept15 {w w' : World} {t e : TypeId} {B b s n : Nat} {cs : Array Value} {v : Value} {ys : List Value} (h : Has w B t cs) (ho : w.ownsRow b e s v n ys) (hne : t ≠ e) (hg : w.grownBy w' v.ownBlock) : Has w' B t cs :=
  h.grown hg (fun hq => by
    rcases ho.2 with ⟨rfl, _⟩ | ⟨g', cap, cur, rfl, _, hc, _⟩
    · cases hq
    · obtain rfl : B = g' := by injection hq
      exact h.apart (show Has w B e cur from hc) hne rfl)
theorem slice15 {w : World} {B s : Nat} {e : TypeId} {v : Value} {n : Nat} {xs : List Value} (h : w.ownsRow B e s v n xs) : ∃ A c, v = .slice A n c ∧ n ≤ c ∧ c ≤ maxLen := by
  rcases h.2 with ⟨rfl, rfl⟩ | ⟨g, cap, cur, rfl, _, _, h1, h2, _⟩
  · exact ⟨none, 0, rfl, Nat.le_refl _, Nat.zero_le _⟩
  · exact ⟨_, cap, rfl, h1, h2⟩
theorem ownBelow15 {w w' : World} {b : Nat} {e : TypeId} {s n : Nat} {v : Value} {xs : List Value} (h : w.ownsRow b e s v n xs) (hb : Below w.heap.size w w') : w'.ownsRow b e s v n xs :=
  h.kept (row := none) ⟨hb.os, hb.tape, hb.output, hb.size, fun k hk _ => hb.block k hk⟩ (by
    rcases v.ownBlock with _ | g
    · exact .inl rfl
    · exact .inr (by simp))
theorem ownCell15 {w : World} {b B s n : Nat} {e t : TypeId} {v : Value} {xs : List Value} {cs : Array Value} (h : w.ownsRow b e s v n xs) (hB : Has w B t cs) (hne : t ≠ e) (i : Nat) (u : Value) : (w.setCell ⟨B, i, none⟩ u).ownsRow b e s v n xs := by
  refine h.kept (row := some B) (only_store (only_refl w B) i u) ?_
  rcases h.2 with ⟨rfl, _⟩ | ⟨g, cap, cur, rfl, _, hc, _⟩
  · exact .inl rfl
  · refine .inr (fun hq => ?_)
    obtain rfl : g = B := by injection hq
    exact hB.apart (show Has w g e cur from hc) hne rfl
structure KidC (w : World) (A : Option Addr) (i : Nat) (key : List UInt8) (kc : Nat) (v : NV) (g off kg koff : Nat) : Prop where
  row : A = some ⟨g, off, none⟩
  key : w.cell? ⟨g, off + i * 4, none⟩ = some (.string ⟨key.toArray⟩)
  kid : w.cell? ⟨g, off + i * 4 + 3, none⟩ = some (.slice (some ⟨kg, koff, none⟩) 1 kc)
  k0 : w.cell? ⟨kg, koff, none⟩ = some (.int .i64 v.p)
  k1 : w.cell? ⟨kg, koff + 1, none⟩ = some (.bool v.lf)
  k2 : w.cell? ⟨kg, koff + 2, none⟩ = some (.slice v.A v.n v.c)
theorem KidC.below {w w' : World} {A : Option Addr} {i : Nat} {key : List UInt8} {kc : Nat} {v : NV} {g off kg koff B : Nat} (h : KidC w A i key kc v g off kg koff) (hb : Below B w w') (hB : w.heap.size ≤ B) : KidC w' A i key kc v g off kg koff :=
  have hb' := hb.mono hB
  ⟨h.row, cell_below h.key hb', cell_below h.kid hb', cell_below h.k0 hb', cell_below h.k1 hb', cell_below h.k2 hb'⟩
theorem kidC_of {F G : Nat → Prop} {w : World} {A : Option Addr} {n c : Nat} {es : List CE} {e : CE} {i : Nat} {v : NV} (h : RwF F w A n c 4 (flatC es)) (he : es[i]? = some e) (hn : e.kn = 1) (hk : RwF G w e.ka 1 e.kc 3 (nvL v)) :
    ∃ g off kg koff, KidC w A i e.k e.kc v g off kg koff := by
  obtain ⟨g, off, rfl, _, q0, _, _, q3⟩ := h.at4 he
  obtain ⟨kg, koff, hka, _, hkc⟩ := hk.reads (by simp [nvL])
  rw [hka, hn] at q3
  have d0 := hkc 0 _ rfl
  simp only [Nat.add_zero] at d0
  exact ⟨g, off, kg, koff, rfl, q0, q3, d0, hkc 1 _ rfl, hkc 2 _ rfl⟩
end Go.Proofs.Ytpaklhifnndeoaa
end

section
namespace Go.Proofs.Ytpaklhifnndeoaa
open Go.RowKit
set_option linter.unusedVariables false

def NodeE (F : Nat → Prop) (t : Tr) (w : World) (e : Ending) (w' : World) : Prop := ∃ v, e = .returned (nvV v) ∧ RepN (Fw F w.heap.size) w' v t ∧ Below w.heap.size w w'
theorem Fw.low {F : Nat → Prop} {B C : Nat} (h : B ≤ C) : ∀ g, Fw F C g → Fw F B g := fun g hg => hg.imp id (fun h2 => Nat.le_trans h h2)
structure MdS (w : World) (bs P2 P4 P5 P9 P10 : Nat) (c2 c4 c5 c9 : Array Value) (lfa : Bool) (rows : List CE) (wr : World) : Prop where
  bel : Below w.heap.size w wr
  h2 : Has wr P2 33 c2
  h4 : Has wr P4 33 c4
  h5 : Has wr P5 33 c5
  h9 : Has wr P9 33 c9
  row : ∃ Ax cx, wr.ownsRow bs 53 4 (.slice Ax rows.length cx) rows.length (flatC rows) ∧ Has wr P10 33 #[.int .i64 0, .bool lfa, .slice Ax rows.length cx] ∧ rows.length ≤ cx ∧ cx ≤ maxLen
theorem MdS.alloc {w wr : World} {bs P2 P4 P5 P9 P10 : Nat} {c2 c4 c5 c9 : Array Value} {lfa : Bool} {rows : List CE} (h : MdS w bs P2 P4 P5 P9 P10 c2 c4 c5 c9 lfa rows wr) (o : Obj) : MdS w bs P2 P4 P5 P9 P10 c2 c4 c5 c9 lfa rows (wr.alloc o) := by
  obtain ⟨Ax, cx, h1, h2, h3, h4⟩ := h.row
  exact ⟨h.bel.alloc h.bel.size o, h.h2.alloc o, h.h4.alloc o, h.h5.alloc o, h.h9.alloc o, Ax, cx, h1.alloc o, h2.alloc o, h3, h4⟩
theorem MdS.app {w wr w' : World} {bs P2 P4 P5 P9 P10 : Nat} {c2 c4 c5 c9 : Array Value} {lfa : Bool} {rows more : List CE} {Ax : Option Addr} {cx m : Nat} {v' : Value} (h : MdS w bs P2 P4 P5 P9 P10 c2 c4 c5 c9 lfa rows wr) (ho : wr.ownsRow bs 53 4 (.slice Ax rows.length cx) rows.length (flatC rows))
    (h10 : Has wr P10 33 #[.int .i64 0, .bool lfa, .slice Ax rows.length cx]) (hp : w'.ownsRow bs 53 4 v' m (flatC rows ++ flatC more)) (hm : m = rows.length + more.length) (hq : wr.grownBy w' (Value.slice Ax rows.length cx).ownBlock) (hbs : w.heap.size ≤ bs)
    (n2 : P2 ≠ P10) (n4 : P4 ≠ P10) (n5 : P5 ≠ P10) (n9 : P9 ≠ P10) (hPb : w.heap.size ≤ P10) :
    ∃ A' c', v' = .slice A' m c' ∧ Has w' P10 33 #[.int .i64 0, .bool lfa, .slice Ax rows.length cx] ∧ MdS w bs P2 P4 P5 P9 P10 c2 c4 c5 c9 lfa (rows ++ more) (w'.setCell ⟨P10, 2, none⟩ (.slice A' m c')) := by
  obtain ⟨A', c', rfl, hc1, hc2⟩ := slice15 hp
  have k10 := kept15 h10 ho (by decide) hq
  have hl : (rows ++ more).length = m := by rw [List.length_append, hm]
  refine ⟨A', c', rfl, k10, ?_⟩
  refine ⟨(h.bel.grown hq h.bel.size (fun k hk => Nat.le_trans hbs (ho.lt k hk).1)).setCell (p := ⟨P10, 2, none⟩) hPb _, (kept15 h.h2 ho (by decide) hq).away (p := ⟨P10, 2, none⟩) n2 _, (kept15 h.h4 ho (by decide) hq).away (p := ⟨P10, 2, none⟩) n4 _,
    (kept15 h.h5 ho (by decide) hq).away (p := ⟨P10, 2, none⟩) n5 _, (kept15 h.h9 ho (by decide) hq).away (p := ⟨P10, 2, none⟩) n9 _, A', c', ?_, ?_, ?_, hc2⟩
  · rw [hl, flatC_app]
    exact ownCell15 hp k10 (by decide) 2 _
  · rw [hl]
    have := k10.store 2 (.slice A' m c')
    simpa using this
  · rw [hl]
    exact hc1
end Go.Proofs.Ytpaklhifnndeoaa
end

section
namespace Go.Proofs.Ytpaklhifnndeoaa
open Go.RowKit
set_option linter.unusedVariables false

theorem wp_heldN {P : Program} {id : Nat} {ops : Array Oper} {Q : Exit → Act → World → Prop} {a : Act} {w : World} (S : World → Prop) (hm : P.follows .mixedOrders = true)
    (h : wpAnyH P .any ops (Runs (Q .normal)) S ops.size (Array.replicate ops.size false) a w.drew) : (Code.region id ops true).wp P Q a w :=
  wp_mono (Q := Runs (Q .normal)) (wp_region_held hm h) (fun e a w h => by cases e <;> first | exact h | exact False.elim h)
def ceE (x : List UInt8 × List UInt8) : CE := ⟨x.1, x.2, none, 0, 0, none, 0, 0⟩
def EntE (l : List (List UInt8 × List UInt8)) (w : World) (e : Ending) (w' : World) : Prop := ∃ v, e = .returned v ∧ w'.ownsRow w.heap.size 53 4 v l.length (flatC (l.map ceE)) ∧ Below w.heap.size w w'
theorem ents_step {l : List (List UInt8 × Tr)} {k : Nat} (hk : k < l.length) : entTs (l.take (k + 1)) = entTs (l.take k) ++ entT (kidT l k).2 := by
  rw [List.take_add_one, kid_some hk, Option.toList_some, entTs_app, entTs_cons, entTs_nil, List.append_nil]
theorem own_low15 {w : World} {b b' : Nat} {e : TypeId} {s n : Nat} {v : Value} {xs : List Value} (h : w.ownsRow b e s v n xs) (hb : b' ≤ b) : w.ownsRow b' e s v n xs :=
  ⟨h.1, h.2.imp id (fun ⟨g, cap, cur, e1, e2, r⟩ => ⟨g, cap, cur, e1, Nat.le_trans hb e2, r⟩)⟩
set_option maxRecDepth 100000 in
set_option maxHeartbeats 8000000 in
theorem r15Entries_any : ∀ (t : Tr) (F : Nat → Prop) (v : NV) (w : World), RepN F w v t → (entT t).length ≤ 100000 → Calls Try.prog 25 #[nvV v] w (EntE (entT t) w) := by
  intro t
  induction t using Tr.ind with
  | hl p l =>
    intro F v w h hen
    obtain ⟨hp, hlf, es, hr, hc⟩ := repN_iff.1 h
    obtain ⟨p', lf, A, n, c⟩ := v
    simp only at hp hlf hr
    have hlf2 : lf = true := hlf
    subst hlf2
    unfold nvV
    simp only
    obtain ⟨W, hW⟩ : ∃ W, w.alloc (.cells #[.int .i64 p', .bool true, .slice A n c] 33) = W := ⟨_, rfl⟩
    have hB0 : Below w.heap.size w W := hW ▸ (Below.refl _ w).alloc (Nat.le_refl _) _
    have hX : Has W w.heap.size 33 #[.int .i64 p', .bool true, .slice A n c] := hW ▸ Has.made w 33 _
    have HR := Lib.hid (hr.below hB0)
    have HN := Lib.hid hr.len4
    have hnm : n ≤ 9223372036854775807 := by have h1 := hr.room; have h2 := hr.most; unfold maxLen at h2; omega
    obtain ⟨P, hP⟩ : ∃ P, w.heap.size = P := ⟨_, rfl⟩
    rw [hP] at hX
    have HX := Lib.hid hX
    have HB0 := Lib.hid hB0
    have HC := Lib.hid hc
    have HE := Lib.hid hen
    obtain ⟨ti, hi, hz0, hz1, hz2t⟩ := info_parts c15info
    have hmx : Try.prog.follows .mixedOrders = true := by kernel_rfl
    have hlen : n = l.length := by rw [hr.len4]; exact (show Both (CellL F w) es l from hc).1
    have HNL := Lib.hid hlen
    have hn1 : n ≤ 100000 := by have := hen; rw [entT_leaf, List.length_map] at this; omega
    have HET : Hid (entT (.leaf p l) = l.map (fun x => (x.k, x.d))) := Lib.hid (entT_leaf p l)
    rw [HET.out]
    clear h hp hr hc hlen hX hB0 hen hlf
    go_enter Try.func25, Try.ntmps25
    go_wp2
    try rw [hP]
    clear hW
    go_loopw [3, 4] (fun v i wr => ∃ k : Nat, k ≤ n ∧ i = .int .i64 (k : Int) ∧ wr.ownsRow W.heap.size 53 4 v k (flatC (((l.take k).map (fun x => (x.k, x.d))).map ceE)) ∧ Below W.heap.size W wr) (fun _ i _ => n - (intOf i).toNat)
    case atStart => exact ⟨0, Nat.zero_le _, rfl, World.ownsRow_nil _ _ _ _, Below.refl _ _⟩
    case round =>
      obtain ⟨k, hk, rfl, ho, hb⟩ := hrel
      obtain ⟨Ax, cx, rfl, hcx, hcm⟩ := slice15 ho
      have hXr := HX.out.below hb HX.out.lt
      have x1 := hXr.cell 1
      have x2 := hXr.cell 2
      have HO := Lib.hid ho
      by_cases hlt : k < n
      · obtain ⟨e, he⟩ : ∃ e, es[k]? = some e := ⟨_, List.getElem?_eq_getElem (by rw [← HN.out]; exact hlt)⟩
        obtain ⟨x, hx⟩ : ∃ x, l[k]? = some x := ⟨_, List.getElem?_eq_getElem (by rw [← HNL.out]; exact hlt)⟩
        obtain ⟨⟨hek, hed⟩, _⟩ := (show Both (CellL F w) es l from HC.out).2 k e x he hx
        obtain ⟨g, off, hA, _, c0, c1, _, _⟩ := HR.out.at4 he
        obtain rfl := hA
        obtain ⟨sk, hsk⟩ : ∃ s : ByteArray, (⟨e.k.toArray⟩ : ByteArray) = s := ⟨_, rfl⟩
        obtain ⟨sd, hsd⟩ : ∃ s : ByteArray, (⟨e.d.toArray⟩ : ByteArray) = s := ⟨_, rfl⟩
        rw [hsk] at c0
        rw [hsd] at c1
        have HFL : Hid (flatC (((l.take (k + 1)).map (fun x => (x.k, x.d))).map ceE) = flatC (((l.take k).map (fun x => (x.k, x.d))).map ceE) ++ [.string sk, .string sd, .slice none 0 0, .slice none 0 0]) := Lib.hid (by
          rw [List.take_add_one, hx, Option.toList_some, List.map_append, List.map_append, flatC_app]
          congr 1
          simp [flatC, ceV, ceE, ← hek, ← hed, hsk, hsd])
        have HKD : Hid (∀ w' : World, Below W.heap.size W w' → w'.cell? ⟨g, off + k * 4, none⟩ = some (.string sk) ∧ w'.cell? ⟨g, off + k * 4 + 1, none⟩ = some (.string sd)) := Lib.hid (fun w' hb => ⟨cell_below c0 hb, cell_below c1 hb⟩)
        have HXL : Hid (∀ w' : World, Below W.heap.size W w' → w'.cell? ⟨P, 2, none⟩ = some (.slice (some ⟨g, off, none⟩) n c)) := Lib.hid (fun w' hb => (HX.out.below hb HX.out.lt).cell 2)
        have i0 : (0 : Int) ≤ (k : Int) := by omega
        have i1 : (k : Int) < (n : Int) := by omega
        have hS0 : Below W.heap.size W wr.drew := hb.drew
        have hOd : wr.drew.ownsRow W.heap.size 53 4 (.slice Ax k cx) k (flatC (((l.take k).map (fun x => (x.k, x.d))).map ceE)) := ho
        clear he hx hek hed c0 c1 hsk hsd ho hXr
        go_wp2
        rename_i K hK
        refine wp_heldN (fun w' : World => Below W.heap.size W w') hmx ?_
        obtain ⟨Wd, hWd⟩ : ∃ W, wr.drew = W := ⟨_, rfl⟩
        rw [hWd] at hS0 hOd ⊢
        clear hWd
        refine wpAnyH_take (i := 0) (v := .slice Ax k cx) (lit rfl) (by kernel_rfl) (by kernel_rfl) (by kernel_rfl) (fun _ _ _ h => h) (Or.inl ⟨by rfl, ?_⟩) hS0 ?_
        · rintro w6 hb6
          go_simp
        simp only [Act.put, List.setIfInBounds_toArray, List.set_cons_zero, List.set_cons_succ]
        refine wpAnyH_take (i := 1) (v := .pointer (some ⟨P, 2, none⟩)) (lit rfl) (by kernel_rfl) (by kernel_rfl) (by kernel_rfl) (fun _ _ _ h => h) (Or.inl ⟨by rfl, ?_⟩) hS0 ?_
        · rintro w6 hb6
          go_simp
        simp only [Act.put, List.setIfInBounds_toArray, List.set_cons_zero, List.set_cons_succ]
        refine wpAnyH_take (i := 2) (v := .slice (some ⟨g, off, none⟩) n c) (lit rfl) (by kernel_rfl) (by kernel_rfl) (by kernel_rfl) (fun _ _ _ h => h) (Or.inl ⟨by rfl, ?_⟩) hS0 ?_
        · rintro w6 hb6
          have y6 := HXL.out w6 hb6
          go_simp
        simp only [Act.put, List.setIfInBounds_toArray, List.set_cons_zero, List.set_cons_succ]
        refine wpAnyH_take (i := 3) (v := .int .i64 (k : Int)) (lit rfl) (by kernel_rfl) (by kernel_rfl) (by kernel_rfl) (fun _ _ _ h => h) (Or.inl ⟨by rfl, ?_⟩) hS0 ?_
        · rintro w6 hb6
          go_simp
        simp only [Act.put, List.setIfInBounds_toArray, List.set_cons_zero, List.set_cons_succ]
        refine wpAnyH_take (i := 4) (v := .pointer (some ⟨g, off + k * 4, none⟩)) (lit rfl) (by kernel_rfl) (by kernel_rfl) (by kernel_rfl) (fun _ _ _ h => h) (Or.inl ⟨by rfl, ?_⟩) hS0 ?_
        · rintro w6 hb6
          go_simp
        simp only [Act.put, List.setIfInBounds_toArray, List.set_cons_zero, List.set_cons_succ]
        refine wpAnyH_take (i := 5) (v := .pointer (some ⟨g, off + k * 4, none⟩)) (lit rfl) (by kernel_rfl) (by kernel_rfl) (by kernel_rfl) (fun _ _ _ h => h) (Or.inl ⟨by rfl, ?_⟩) hS0 ?_
        · rintro w6 hb6
          go_simp
        simp only [Act.put, List.setIfInBounds_toArray, List.set_cons_zero, List.set_cons_succ]
        refine wpAnyH_take (i := 6) (v := .string sk) (lit rfl) (by kernel_rfl) (by kernel_rfl) (by kernel_rfl) (fun _ _ _ h => h) (Or.inl ⟨by rfl, ?_⟩) hS0 ?_
        · rintro w6 hb6
          have y6 := (HKD.out w6 hb6).1
          go_simp
        simp only [Act.put, List.setIfInBounds_toArray, List.set_cons_zero, List.set_cons_succ]
        refine wpAnyH_take (i := 7) (v := .pointer (some ⟨P, 2, none⟩)) (lit rfl) (by kernel_rfl) (by kernel_rfl) (by kernel_rfl) (fun _ _ _ h => h) (Or.inl ⟨by rfl, ?_⟩) hS0 ?_
        · rintro w6 hb6
          go_simp
        simp only [Act.put, List.setIfInBounds_toArray, List.set_cons_zero, List.set_cons_succ]
        refine wpAnyH_take (i := 8) (v := .slice (some ⟨g, off, none⟩) n c) (lit rfl) (by kernel_rfl) (by kernel_rfl) (by kernel_rfl) (fun _ _ _ h => h) (Or.inl ⟨by rfl, ?_⟩) hS0 ?_
        · rintro w6 hb6
          have y6 := HXL.out w6 hb6
          go_simp
        simp only [Act.put, List.setIfInBounds_toArray, List.set_cons_zero, List.set_cons_succ]
        refine wpAnyH_take (i := 9) (v := .int .i64 (k : Int)) (lit rfl) (by kernel_rfl) (by kernel_rfl) (by kernel_rfl) (fun _ _ _ h => h) (Or.inl ⟨by rfl, ?_⟩) hS0 ?_
        · rintro w6 hb6
          go_simp
        simp only [Act.put, List.setIfInBounds_toArray, List.set_cons_zero, List.set_cons_succ]
        refine wpAnyH_take (i := 10) (v := .pointer (some ⟨g, off + k * 4, none⟩)) (lit rfl) (by kernel_rfl) (by kernel_rfl) (by kernel_rfl) (fun _ _ _ h => h) (Or.inl ⟨by rfl, ?_⟩) hS0 ?_
        · rintro w6 hb6
          go_simp
        simp only [Act.put, List.setIfInBounds_toArray, List.set_cons_zero, List.set_cons_succ]
        refine wpAnyH_take (i := 11) (v := .pointer (some ⟨g, off + k * 4 + 1, none⟩)) (lit rfl) (by kernel_rfl) (by kernel_rfl) (by kernel_rfl) (fun _ _ _ h => h) (Or.inl ⟨by rfl, ?_⟩) hS0 ?_
        · rintro w6 hb6
          go_simp
        simp only [Act.put, List.setIfInBounds_toArray, List.set_cons_zero, List.set_cons_succ]
        refine wpAnyH_take (i := 12) (v := .pointer (some ⟨g, off + k * 4 + 1, none⟩)) (lit rfl) (by kernel_rfl) (by kernel_rfl) (by kernel_rfl) (fun _ _ _ h => h) (Or.inl ⟨by rfl, ?_⟩) hS0 ?_
        · rintro w6 hb6
          go_simp
        simp only [Act.put, List.setIfInBounds_toArray, List.set_cons_zero, List.set_cons_succ]
        refine wpAnyH_take (i := 13) (v := .string sd) (lit rfl) (by kernel_rfl) (by kernel_rfl) (by kernel_rfl) (fun _ _ _ h => h) (Or.inl ⟨by rfl, ?_⟩) hS0 ?_
        · rintro w6 hb6
          have y6 := (HKD.out w6 hb6).2
          go_simp
        simp only [Act.put, List.setIfInBounds_toArray, List.set_cons_zero, List.set_cons_succ]
        refine wpAnyH_take (i := 14) (v := .agg #[.string sd, .slice none 0 0]) (lit rfl) (by kernel_rfl) (by kernel_rfl) (by kernel_rfl) (fun _ _ _ h => h) (Or.inl ⟨by rfl, ?_⟩) hS0 ?_
        · rintro w6 hb6
          go_simp
        simp only [Act.put, List.setIfInBounds_toArray, List.set_cons_zero, List.set_cons_succ]
        refine wpAnyH_take (i := 15) (v := .agg #[.string sk, .string sd, .slice none 0 0, .slice none 0 0]) (lit rfl) (by kernel_rfl) (by kernel_rfl) (by kernel_rfl) (fun _ _ _ h => h) (Or.inl ⟨by rfl, ?_⟩) hS0 ?_
        · rintro w6 hb6
          go_simp
        simp only [Act.put, List.setIfInBounds_toArray, List.set_cons_zero, List.set_cons_succ]
        refine wpAnyH_ready (rs := [16]) (by kernel_rfl) (by simp) ?_
        refine AllReadyH.cons (lit rfl) (fun K5 hK5 => ?_) AllReadyH.nil
        refine step_open rfl ?_
        go_simp
        obtain ⟨V1, hV1⟩ : ∃ W, Wd.alloc (.cells #[.string sk, .string sd, .slice none 0 0, .slice none 0 0] 53) = W := ⟨_, rfl⟩
        have LS : ∀ j u, ([.string sk, .string sd, .slice none 0 0, .slice none 0 0] : List Value)[j]? = some u → V1.cell? ((⟨Wd.heap.size, 0, none⟩ : Addr).add j) = some u := hV1 ▸ fun j u hj => (by rw [add_plain, (Has.made Wd 53 #[.string sk, .string sd, .slice none 0 0, .slice none 0 0]).cell, Nat.zero_add]; simpa using hj)
        have hO1 := hV1 ▸ hOd.alloc (.cells #[.string sk, .string sd, .slice none 0 0, .slice none 0 0] 53)
        have hS1 : Below W.heap.size W V1 := hV1 ▸ hS0.alloc hS0.size _
        try rw [hV1]
        refine hK5.out _ _ hS1 (fun _ => ?_)
        clear hK5 K5
        refine wpAnyH_ready (rs := [17]) (by kernel_rfl) (by simp) ?_
        refine AllReadyH.cons (lit rfl) (fun K5 hK5 => ?_) AllReadyH.nil
        refine step_append_lies _ rfl _ _ 31 rfl W.heap.size 53 ti _ 4 80 Try.underlying31 hi hz0 hz1 hz2t rfl (by decide) _ k _ rfl hO1 ⟨Wd.heap.size, 0, none⟩ 1 1 [.string sk, .string sd, .slice none 0 0, .slice none 0 0] rfl rfl LS (by intro u hu; simp at hu; rcases hu with rfl | rfl | rfl <;> rfl) (by decide) (by unfold maxLen; omega) (by omega) hS1.size _ rfl ?_
        intro gn cp w8 h7 h8 h9 h10
        have hS8 : Below W.heap.size W w8 := below_own14 hS1 h8 hO1 hS1.size
        have O8 := Lib.hid h7
        clear h7 h8 h9 h10 hO1 LS
        refine hK5.out _ _ hS8 (fun _ => ?_)
        clear hK5 K5
        simp only [Act.put, List.setIfInBounds_toArray, List.set_cons_zero, List.set_cons_succ]
        refine wpAnyH_take (i := 18) (v := .slice (some ⟨gn, 0, none⟩) (k + 1) cp) (lit rfl) (by kernel_rfl) (by kernel_rfl) (by kernel_rfl) (fun _ _ _ h => h) (Or.inl ⟨by rfl, ?_⟩) hS8 ?_
        · rintro w6 hb6
          go_simp
        simp only [Act.put, List.setIfInBounds_toArray, List.set_cons_zero, List.set_cons_succ]
        refine wpAnyH_done (by kernel_rfl) ?_ _
        refine hK _ _ ?_
        go_wp2
        go_roundw
        case rel => exact ⟨k + 1, by omega, by go_num, by rw [HFL.out]; exact O8.out, hS8⟩
        case measure => simp [intOf]; omega
      · have hkn : k = n := by omega
        have i1 : ¬ (k : Int) < (n : Int) := by omega
        have htk : l.take k = l := List.take_of_length_le (by rw [hkn, HNL.out]; exact Nat.le_refl _)
        rw [htk] at ho
        have HFIN : Hid (EntE (l.map (fun x => (x.k, x.d))) w (.returned (.slice Ax k cx)) wr) := Lib.hid ⟨_, rfl, by
          rw [List.length_map, ← HNL.out, ← hkn]
          exact own_low15 ho HB0.out.size, below_step HB0.out hb⟩
        clear ho htk hXr hkn
        go_wp2
        go_ret
        exact HFIN.out
  | hb p l ih =>
    intro F v w h hen
    obtain ⟨hp, hlf, es, hr, hc⟩ := repN_iff.1 h
    obtain ⟨p', lf, A, n, c⟩ := v
    simp only at hp hlf hr
    have hlf2 : lf = false := hlf
    subst hlf2
    unfold nvV
    simp only
    obtain ⟨W, hW⟩ : ∃ W, w.alloc (.cells #[.int .i64 p', .bool false, .slice A n c] 33) = W := ⟨_, rfl⟩
    have hB0 : Below w.heap.size w W := hW ▸ (Below.refl _ w).alloc (Nat.le_refl _) _
    have hX : Has W w.heap.size 33 #[.int .i64 p', .bool false, .slice A n c] := hW ▸ Has.made w 33 _
    have HR := Lib.hid (hr.below hB0)
    have HN := Lib.hid hr.len4
    have hnm : n ≤ 9223372036854775807 := by have h1 := hr.room; have h2 := hr.most; unfold maxLen at h2; omega
    obtain ⟨P, hP⟩ : ∃ P, w.heap.size = P := ⟨_, rfl⟩
    rw [hP] at hX
    have HX := Lib.hid hX
    have HB0 := Lib.hid hB0
    have HC := Lib.hid hc
    have HE := Lib.hid hen
    obtain ⟨ti, hi, hz0, hz1, hz2t⟩ := info_parts c15info
    have hmx : Try.prog.follows .mixedOrders = true := by kernel_rfl
    have hc2 : Both (CellT F w) es l := hc
    have hlen : n = l.length := by rw [hr.len4]; exact hc2.1
    have HNL := Lib.hid hlen
    have HET : Hid (entT (.branch p l) = entTs l) := Lib.hid (entT_br p l)
    rw [HET.out]
    rw [HET.out] at HE
    have HIH := Lib.hid ih
    clear h hp hr hc hc2 hlen hX hB0 hen hlf ih
    go_enter Try.func25, Try.ntmps25
    go_wp2
    try rw [hP]
    clear hW
    go_loopw [3, 4] (fun v i wr => ∃ k : Nat, k ≤ n ∧ i = .int .i64 (k : Int) ∧ wr.ownsRow W.heap.size 53 4 v (entTs (l.take k)).length (flatC ((entTs (l.take k)).map ceE)) ∧ Below W.heap.size W wr) (fun _ i _ => n - (intOf i).toNat)
    case atStart => exact ⟨0, Nat.zero_le _, rfl, World.ownsRow_nil _ _ _ _, Below.refl _ _⟩
    case round =>
      obtain ⟨k, hk, rfl, ho, hb⟩ := hrel
      obtain ⟨Ax, cx, rfl, hcx, hcm⟩ := slice15 ho
      have hXr := HX.out.below hb HX.out.lt
      have x1 := hXr.cell 1
      have x2 := hXr.cell 2
      by_cases hlt : k < n
      · have hkl : k < l.length := by rw [← HNL.out]; exact hlt
        obtain ⟨e, he, v2, ⟨_, hen2, hkr⟩, hrep⟩ := (show Both (CellT F w) es l from HC.out).at_ (kid_some hkl)
        obtain ⟨g, off, kg, koff, hKC⟩ := kidC_of HR.out he hen2 (hkr.below HB0.out)
        obtain rfl := hKC.row
        have kc := hKC.below hb (Nat.le_refl _)
        have q3 := kc.kid
        have q0 := kc.k0
        have q1 := kc.k1
        have q2 := kc.k2
        have hst := ents_step hkl
        obtain ⟨mm, hmm⟩ : ∃ m, (entTs (l.take k)).length = m := ⟨_, rfl⟩
        obtain ⟨mk, hmk⟩ : ∃ m, (entT (kidT l k).2).length = m := ⟨_, rfl⟩
        have hsum : mm + mk ≤ 100000 := by
          have h1 : (entTs (l.take (k + 1))).length = mm + mk := by rw [hst, List.length_append, hmm, hmk]
          have h2 : (entTs l).length = (entTs (l.take (k + 1))).length + (entTs (l.drop (k + 1))).length := by rw [← List.length_append, ← entTs_app, List.take_append_drop]
          have := HE.out
          omega
        have hih := HIH.out _ (kid_mem hkl) F v2 wr (hrep.stay (below_step HB0.out hb)) (by omega)
        obtain ⟨p2, lf2, A2, n2, c2⟩ := v2
        unfold nvV EntE at hih
        simp only at hih
        rw [hmk] at hih
        have HIE := Lib.hid hih
        rw [hmm] at ho ⊢
        have HO := Lib.hid ho
        have HMM := Lib.hid hmm
        have HMK := Lib.hid hmk
        have HST := Lib.hid hst
        have i0 : (0 : Int) ≤ (k : Int) := by omega
        have i1 : (k : Int) < (n : Int) := by omega
        have HB := Lib.hid hb
        clear he hen2 hkr hrep hKC kc hst hmm hmk hih ho hXr hkl hb
        go_wp2_with (first
          | (go_at_call 25; (with_reducible refine HIE.out.mono ?_); rintro r5 w5 ⟨v5, rfl, o5, b5⟩; obtain ⟨A5, c5, rfl, r5⟩ := RwF.own o5; have O5 := Lib.hid (ownBelow15 HO.out b5); have R5 := Lib.hid r5; have B5 := Lib.hid (below_step HB.out b5); clear o5 r5 b5)
          | (at_builtin; refine wpList_append_rw rfl _ _ 31 rfl W.heap.size 53 ti _ 4 80 Try.underlying31 hi hz0 hz1 hz2t rfl (by decide) _ mm _ rfl O5.out _ mk _ _ rfl R5.out (one_cells _) (by unfold maxLen; omega) (by omega) B5.out.size ?_; intro v8 w8 p8 q8; have B8 := Lib.hid (below_own14 B5.out q8 O5.out B5.out.size); have O8 := Lib.hid p8; clear p8 q8))
        go_roundw
        case rel => exact ⟨k + 1, by omega, by go_num, by rw [HST.out, List.length_append, HMM.out, HMK.out, List.map_append, flatC_app]; exact O8.out, B8.out⟩
        case measure => simp [intOf]; omega
      · have hkn : k = n := by omega
        have i1 : ¬ (k : Int) < (n : Int) := by omega
        have htk : l.take k = l := List.take_of_length_le (by rw [hkn, HNL.out]; exact Nat.le_refl _)
        rw [htk] at ho
        obtain ⟨mm, hmm⟩ : ∃ m, (entTs l).length = m := ⟨_, rfl⟩
        rw [htk, hmm]
        rw [hmm] at ho
        have HFIN : Hid (EntE (entTs l) w (.returned (.slice Ax mm cx)) wr) := Lib.hid ⟨_, rfl, by
          rw [hmm]
          exact own_low15 ho HB0.out.size, below_step HB0.out hb⟩
        clear ho htk hXr hkn hmm
        go_wp2
        go_ret
        exact HFIN.out
end Go.Proofs.Ytpaklhifnndeoaa
end
