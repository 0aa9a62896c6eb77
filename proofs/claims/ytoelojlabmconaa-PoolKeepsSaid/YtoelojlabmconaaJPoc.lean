import Derived.Test.YtoelojlabmconaaJPob
/- Of a claim's texts, joined: Poc. No statement but in the last. -/
namespace Go.Proofs.Ytoelojlabmconaa
open Go.RowKit
set_option linter.unusedVariables false

structure Pd where
  hi : Int
  free : List Int
  wait : List (Nat × List Int)
structure WaitsA (w : World) (B : Option Addr) (m d : Nat) (l : List (Nat × List Int)) : Prop where
  len : m = l.length
  reads : 0 < m → ∃ b off, B = some ⟨b, off, none⟩ ∧ b < w.heap.size ∧ ∀ i x, l[i]? = some x → w.cell? ⟨b, off + i * 2, none⟩ = some (.int .u64 (x.1 : Int)) ∧ ∃ A n c, w.cell? ⟨b, off + i * 2 + 1, none⟩ = some (.slice A n c) ∧ RowZ w A n c x.2
  room : m ≤ d
  most : d ≤ maxLen
  big : ∀ x ∈ l, x.1 < 2 ^ 64
theorem WaitsA.below {w w' : World} {B : Option Addr} {m d : Nat} {l : List (Nat × List Int)} (h : WaitsA w B m d l) (hb : Below w.heap.size w w') : WaitsA w' B m d l :=
  ⟨h.len, fun h0 => by
    obtain ⟨b, off, e, hlt, hc⟩ := h.reads h0
    refine ⟨b, off, e, Nat.lt_of_lt_of_le hlt hb.size, fun i x hx => ?_⟩
    obtain ⟨h1, A, n, c, h2, h3⟩ := hc i x hx
    exact ⟨(hb.cell (p := ⟨b, off + i * 2, none⟩) hlt).trans h1, A, n, c, (hb.cell (p := ⟨b, off + i * 2 + 1, none⟩) hlt).trans h2, h3.below hb⟩, h.room, h.most, h.big⟩
structure PoolA (w : World) (A : Option Addr) (n c : Nat) (B : Option Addr) (m d : Nat) (p : Pd) : Prop where
  free : RowZ w A n c p.free
  wait : WaitsA w B m d p.wait
theorem PoolA.below {w w' : World} {A B : Option Addr} {n c m d : Nat} {p : Pd} (h : PoolA w A n c B m d p) (hb : Below w.heap.size w w') : PoolA w' A n c B m d p := ⟨h.free.below hb, h.wait.below hb⟩
def catTo (l : List (Nat × List Int)) (k : Nat) : List Int := (l.take k).flatMap (·.2)
def catZ (l : List (Nat × List Int)) : List Int := l.flatMap (·.2)
theorem catTo_more {l : List (Nat × List Int)} {k : Nat} {x : Nat × List Int} (h : l[k]? = some x) : catTo l (k + 1) = catTo l k ++ x.2 := by
  obtain ⟨hk, e⟩ := List.getElem?_eq_some_iff.1 h
  unfold catTo
  rw [List.take_succ_eq_append_getElem hk, List.flatMap_append, e]
  simp
theorem catTo_all {l : List (Nat × List Int)} {k : Nat} (h : k = l.length) : catTo l k = catZ l := by
  unfold catTo catZ
  rw [List.take_of_length_le (by omega)]
theorem catTo_len {l : List (Nat × List Int)} (k : Nat) : (catTo l k).length ≤ (catZ l).length := by
  unfold catTo catZ
  conv => rhs; rw [← List.take_append_drop k l]
  rw [List.flatMap_append, List.length_append]
  omega
def listedP (p : Pd) : List Int := srtZ (p.free ++ catZ p.wait)
def roomP (p : Pd) (q : Int) : Int := (p.free.length : Int) + if p.hi < q then q - p.hi else 0
def BoxP (T : TypeId) (w W1 : World) (h : Int) (A : Option Addr) (n c : Nat) (B : Option Addr) (m d : Nat) (p : Pd) : Prop :=
  ∀ w1, Below W1.heap.size W1 w1 → Has w1 w.heap.size T #[.int .i64 h, .slice A n c, .slice B m d] ∧ PoolA w1 A n c B m d p
theorem BoxP.made {T : TypeId} {w W1 : World} {h : Int} {A : Option Addr} {n c : Nat} {B : Option Addr} {m d : Nat} {p : Pd} (hp : PoolA w A n c B m d p) (hW : w.alloc (.cells #[.int .i64 h, .slice A n c, .slice B m d] T) = W1) : BoxP T w W1 h A n c B m d p := fun w1 hb => by
  subst hW
  have hh := Has.made w T #[.int .i64 h, .slice A n c, .slice B m d]
  exact ⟨hh.below hb hh.lt, (hp.below ((Below.refl _ w).alloc (Nat.le_refl _) _)).below hb⟩
theorem below_box {w W1 w1 : World} {o : Obj} (hW : w.alloc o = W1) (hb : Below W1.heap.size W1 w1) : Below w.heap.size w w1 := by
  subst hW
  exact below_step ((Below.refl _ w).alloc (Nat.le_refl _) _) hb
section
variable {w : World} {A B : Option Addr} {n c m d : Nat} {p : Pd}
set_option maxRecDepth 100000 in
set_option maxHeartbeats 2000000 in
theorem r13List_any (h : Int) (hp : PoolA w A n c B m d p) (hl : p.free.length + (catZ p.wait).length ≤ 10000) :
    Calls Try.prog 18 #[.agg #[.int .i64 h, .slice A n c, .slice B m d]] w (RowZEnd (listedP p) w) := by
  obtain ⟨W1, hW1⟩ : ∃ W1, w.alloc (.cells #[.int .i64 h, .slice A n c, .slice B m d] 30) = W1 := ⟨_, rfl⟩
  have HX := Lib.hid (BoxP.made (h := h) hp hW1)
  have HW := Lib.hid hW1
  have HF := Lib.hid hp.free.len
  have HM := Lib.hid hp.wait.len
  have hmm : m ≤ 9223372036854775807 := by have h1 := hp.wait.room; have h2 := hp.wait.most; unfold maxLen at h2; omega
  have HSO := Lib.hid (fun w1 A1 n1 c1 (l1 : List Int) (h1 : RowZ w1 A1 n1 c1 l1) (hn : n1 ≤ 100000) => r13Sorted_any l1 A1 n1 c1 w1 h1 hn)
  unfold RowZEnd at HSO
  obtain ⟨i0, hi, hz0, hz1, hz2⟩ := info_parts int_info13
  obtain ⟨h0, hf0⟩ := HX.out W1 (Below.refl _ _)
  have c1' := h0.cell 1
  have HF0 := Lib.hid hf0.free
  clear hp hW1 hf0 h0
  go_enter Try.func18, Try.ntmps18
  go_wp2_with (at_builtin; (rw [HW.out]; refine wpList_append_zs rfl _ _ 22 rfl W1.heap.size 3 i0 Try.underlying22 hi hz0 hz1 hz2 _ 0 [] rfl (World.ownsRow_nil _ _ _ _) _ n _ p.free rfl HF.out HF0.out.nil HF0.out.reads (by have := HF.out; omega) (Nat.le_refl _) ?_; intro v3 w3 h7 h8; rw [Nat.zero_add, List.nil_append] at h7; have O3 := Lib.hid h7; have B3 : Hid (Below W1.heap.size W1 w3) := Lib.hid (below_own (Below.refl _ W1) h8 (World.ownsRow_nil _ W1.heap.size 3 1) (Nat.le_refl _)); clear h7 h8))
  go_loopw [3, 4] (fun v i wr => ∃ k : Nat, k ≤ m ∧ i = .int .i64 (k : Int) ∧ wr.ownsRow W1.heap.size 3 1 v (n + (catTo p.wait k).length) ((p.free ++ catTo p.wait k).map (Value.int .i64)) ∧ Below W1.heap.size W1 wr) (fun _ i _ => m - (intOf i).toNat)
  case atStart => exact ⟨0, Nat.zero_le _, rfl, by simpa [catTo] using O3.out, B3.out⟩
  case round =>
    obtain ⟨k, hk, rfl, ho, hB⟩ := hrel
    have HO := Lib.hid ho
    have HB := Lib.hid hB
    obtain ⟨hh, hpa⟩ := HX.out wr hB
    have d2 := hh.cell 2
    by_cases hlt : k < m
    · obtain ⟨b, off, rfl, hbl, hel⟩ := hpa.wait.reads (by omega)
      have hkl : k < p.wait.length := by have := HM.out; omega
      obtain ⟨x, hx⟩ : ∃ x, p.wait[k]? = some x := ⟨_, List.getElem?_eq_getElem hkl⟩
      obtain ⟨_, A2, n2, c2, d3, hr2⟩ := hel k x hx
      have HR2 := Lib.hid hr2
      have HC := Lib.hid (catTo_more hx)
      have hlen := catTo_len (l := p.wait) (k + 1)
      have k0 : (0 : Int) ≤ (k : Int) := by omega
      have k1 : (k : Int) < (m : Int) := by omega
      have hbnd : (catTo p.wait k).length + n2 = (catTo p.wait (k + 1)).length := by rw [HC.out, List.length_append, hr2.len]
      obtain ⟨q, hq⟩ : ∃ q, catTo p.wait k = q := ⟨_, rfl⟩
      rw [hq] at HO HC hbnd
      have HBN := Lib.hid hbnd
      have hql : n + q.length + n2 ≤ 1000000 := by have := HF.out; omega
      clear ho hB hh hpa hel hr2 hbl hx hkl hq hlen hbnd
      go_wp2_with (at_builtin; (refine wpList_append_zs rfl _ _ 22 rfl W1.heap.size 3 i0 Try.underlying22 hi hz0 hz1 hz2 _ (n + q.length) _ rfl HO.out _ n2 _ x.2 rfl HR2.out.len HR2.out.nil HR2.out.reads hql HB.out.size ?_; intro v4 w4 h7 h8; have O4 := Lib.hid h7; have B4 := Lib.hid (below_own HB.out h8 HO.out HB.out.size); clear h7 h8))
      go_roundw
      case rel => exact ⟨k + 1, by omega, by go_num, by
        have ho := O4.out
        rw [← List.map_append, List.append_assoc, ← HC.out, Nat.add_assoc, HBN.out] at ho
        exact ho, B4.out⟩
      case measure => simp [intOf]; omega
    · obtain rfl : k = m := by omega
      have hltI : ¬ (k : Int) < (k : Int) := by omega
      rw [catTo_all HM.out] at ho
      obtain ⟨A2, c2, rfl, hR⟩ := RowZ.own ho
      have HR := Lib.hid hR
      have hnb : n + (catZ p.wait).length ≤ 100000 := by have := HF.out; omega
      obtain ⟨N, hN⟩ : ∃ N, n + (catZ p.wait).length = N := ⟨_, rfl⟩
      rw [hN] at HR hnb
      clear ho hB hh hpa hR
      rw [hN]
      go_wp2_with (go_at_call 26; (with_reducible refine (HSO.out _ _ _ _ _ HR.out hnb).mono ?_); rintro e w5 ⟨A5, n5, c5, rfl, h5, b5⟩; have R5 := Lib.hid h5; have B5 := Lib.hid (below_step HB.out b5); clear h5 b5)
      go_ret
      exact ⟨A5, n5, c5, rfl, R5.out, below_box HW.out B5.out⟩
set_option maxRecDepth 100000 in
theorem r13Wait_any (h : Int) (hp : PoolA w A n c B m d p) (hl : p.free.length + (catZ p.wait).length ≤ 10000) :
    Calls Try.prog 15 #[.agg #[.int .i64 h, .slice A n c, .slice B m d]] w fun e w' => e = .returned (.int .i64 ((catZ p.wait).length : Int)) ∧ Below w.heap.size w w' := by
  obtain ⟨W1, hW1⟩ : ∃ W1, w.alloc (.cells #[.int .i64 h, .slice A n c, .slice B m d] 30) = W1 := ⟨_, rfl⟩
  have HX := Lib.hid (BoxP.made (h := h) hp hW1)
  have HW := Lib.hid hW1
  have HM := Lib.hid hp.wait.len
  have hmm : m ≤ 9223372036854775807 := by have h1 := hp.wait.room; have h2 := hp.wait.most; unfold maxLen at h2; omega
  clear hp hW1
  go_enter Try.func15, Try.ntmps15
  go_wp2
  go_loopw [3, 4] (fun v i wr => ∃ k : Nat, k ≤ m ∧ i = .int .i64 (k : Int) ∧ v = .int .i64 ((catTo p.wait k).length : Int) ∧ wr = W1) (fun _ i _ => m - (intOf i).toNat)
  case atStart => exact ⟨0, Nat.zero_le _, rfl, rfl, HW.out⟩
  case round =>
    obtain ⟨k, hk, rfl, rfl, rfl⟩ := hrel
    obtain ⟨hh, hpa⟩ := HX.out wr (Below.refl _ _)
    have d2 := hh.cell 2
    by_cases hlt : k < m
    · obtain ⟨b, off, rfl, hbl, hel⟩ := hpa.wait.reads (by omega)
      have hkl : k < p.wait.length := by have := HM.out; omega
      obtain ⟨x, hx⟩ : ∃ x, p.wait[k]? = some x := ⟨_, List.getElem?_eq_getElem hkl⟩
      obtain ⟨_, A2, n2, c2, d3, hr2⟩ := hel k x hx
      have HC := Lib.hid (catTo_more hx)
      have hlen := catTo_len (l := p.wait) (k + 1)
      have k0 : (0 : Int) ≤ (k : Int) := by omega
      have k1 : (k : Int) < (m : Int) := by omega
      have hbnd : (catTo p.wait k).length + n2 = (catTo p.wait (k + 1)).length := by rw [HC.out, List.length_append, hr2.len]
      have HBN := Lib.hid hbnd
      have hb2 : (catTo p.wait k).length + n2 ≤ 10000 := by omega
      obtain ⟨q, hq⟩ : ∃ q, (catTo p.wait k).length = q := ⟨_, rfl⟩
      rw [hq] at HBN hb2 ⊢
      clear hh hpa hel hr2 hbl hx hkl hq hlen hbnd
      go_wp2
      go_roundw
      case rel => exact ⟨k + 1, by omega, by go_num, by rw [← HBN.out]; go_num, trivial⟩
      case measure => simp [intOf]; omega
    · obtain rfl : k = m := by omega
      have hltI : ¬ (k : Int) < (k : Int) := by omega
      have HC := Lib.hid (catTo_all HM.out)
      rw [HC.out]
      clear hh hpa
      go_wp2
      go_ret
      exact ⟨rfl, below_box HW.out (Below.refl _ _)⟩
theorem r13Room_any (q : Int) (hp : PoolA w A n c B m d p) (hl : p.free.length ≤ 10000) (h1 : -1125899906842624 ≤ p.hi ∧ p.hi ≤ 1125899906842624) (h2 : -1125899906842624 ≤ q ∧ q ≤ 1125899906842624) :
    Calls Try.prog 13 #[.agg #[.int .i64 p.hi, .slice A n c, .slice B m d], .int .i64 q] w fun e w' => e = .returned (.int .i64 (roomP p q)) ∧ Below w.heap.size w w' := by
  obtain ⟨W1, hW1⟩ : ∃ W1, w.alloc (.cells #[.int .i64 p.hi, .slice A n c, .slice B m d] 30) = W1 := ⟨_, rfl⟩
  have HX := Lib.hid (BoxP.made (h := p.hi) hp hW1)
  have HW := Lib.hid hW1
  have hn : n = p.free.length := hp.free.len
  have hB := Lib.hid (below_box hW1 (Below.refl _ _))
  unfold roomP
  rw [← hn] at hl ⊢
  obtain ⟨z, hz⟩ : ∃ z, p.hi = z := ⟨_, rfl⟩
  rw [hz] at h1 HX HW hW1 ⊢
  clear hp hn hz hW1
  obtain ⟨hh, hpa⟩ := HX.out W1 (Below.refl _ _)
  have d0 := hh.cell 0
  have d1 := hh.cell 1
  clear hh hpa
  by_cases hq : z < q
  · rw [if_pos hq]
    have w1 : IntKind.i64.wrap (q - z) = q - z := by rw [IntKind.wrap_i64]; omega
    have w2 : IntKind.i64.wrap ((n : Int) + (q - z)) = (n : Int) + (q - z) := by rw [IntKind.wrap_i64]; omega
    rw [← HW.out] at d0 d1
    go_enter Try.func13, Try.ntmps13
    go_wp2
    go_ret
    exact ⟨rfl, HW.out ▸ hB.out⟩
  · rw [if_neg hq]
    rw [← HW.out] at d0 d1
    go_enter Try.func13, Try.ntmps13
    go_wp2
    go_ret
    exact ⟨by simp, HW.out ▸ hB.out⟩
end
end Go.Proofs.Ytoelojlabmconaa
