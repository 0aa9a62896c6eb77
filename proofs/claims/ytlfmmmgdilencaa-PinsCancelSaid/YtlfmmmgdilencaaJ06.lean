import Derived.Test.YtlfmmmgdilencaaJPir
import Derived.Maps.OwnSet
import Derived.Maps.RangeWalk
import Derived.Test.YtlfmmmgdilencaaJ00
import Derived.Test.YtlfmmmgdilencaaJ02
import Derived.Deep.Slices
import Derived.SliceStrings
import Derived.ProofKit
import Derived.OpenShut
import Derived.ShutString
import Derived.ChangeOld
/- Of a claim's texts, joined: Pia Argp. No statement but in the last. -/
section
namespace Go.Proofs.Ytlfmmmgdilencaa
open Go.RowKit Go.Maps
open Go.WideElems (Fit rd rg pl rd_val elemAt)
set_option linter.unusedVariables false

theorem nodup_sub_len : ∀ (ks L : List Nat), ks.Nodup → (∀ x ∈ ks, x ∈ L) → ks.length ≤ L.length
  | [], L, _, _ => Nat.zero_le _
  | x :: r, L, h, hs => by
    have h1 := List.nodup_cons.1 h
    have hx := hs x (by simp)
    have := nodup_sub_len r (L.erase x) h1.2 (fun y hy => (List.mem_erase_of_ne (fun e : y = x => h1.1 (by rw [← e]; exact hy))).2 (hs y (by simp [hy])))
    have h2 := List.length_erase_of_mem hx
    have h3 : 0 < L.length := List.length_pos_of_mem hx
    rw [List.length_cons]
    omega
theorem keyed12 : Keyed Try.prog 27 := int_keyed Try.underlying27
theorem wf12 {v : Nat} (hv : v < 2 ^ 64) : (Lit.int .u64 (v : Int)).wf = true := by
  simp [Lit.wf, IntKind.min, IntKind.max, IntKind.signed, IntKind.bits]
  omega
theorem wfi12 {v : Nat} (hv : v ≤ 2000) : (Lit.int .i64 (v : Int)).wf = true := by
  simp [Lit.wf, IntKind.min, IntKind.max, IntKind.signed, IntKind.bits]
  omega
theorem key12 {v : Nat} (hv : v < 2 ^ 64) : keyOf Try.prog 27 (.int .u64 (v : Int)) = some (.int .u64 (v : Int)) := keyOf_int_mk Try.underlying27 (wf12 hv)
theorem lit_ne12 {j k : Nat} (h : j ≠ k) : (Lit.int .u64 (j : Int)) ≠ (Lit.int .u64 (k : Int)) := fun e => by
  injection e with _ e
  omega
abbrev Mp12 (w : World) (b n : Nat) (D : DataW Unit) : Prop := w.ownsMap Try.prog 27 (plainElem Try.prog 3) b n D
def Says (D : DataW Unit) (L : List Nat) : Prop := ∀ k : Nat, k < 2 ^ 64 → (k ∈ L → ∀ z, D.atKey (.int .u64 (k : Int)) z = .lit (.int .i64 (L.count k : Int))) ∧ (k ∉ L → Maps.has D (.int .u64 (k : Int)) = false)
def MapIs (w : World) (b : Nat) (L : List Nat) : Prop := ∃ n D, Mp12 w b n D ∧ Says D L
theorem MapIs.keep {w w' : World} {b : Nat} {L : List Nat} (h : MapIs w b L) (e : w'.heap[b]? = w.heap[b]?) : MapIs w' b L := by
  obtain ⟨n, D, ⟨es, c, hb, h⟩, hS⟩ := h
  exact ⟨n, D, ⟨es, c, e.trans hb, h⟩, hS⟩
theorem MapIs.lt {w : World} {b : Nat} {L : List Nat} (h : MapIs w b L) : b < w.heap.size := by
  obtain ⟨n, D, h, _⟩ := h
  exact h.lt
theorem MapIs.apart {w : World} {b g : Nat} {L : List Nat} {t : TypeId} {cs : Array Value} (h : MapIs w b L) (h' : Has w g t cs) : g ≠ b := by
  rintro rfl
  obtain ⟨n, D, ⟨es, c, hb, _⟩, _⟩ := h
  unfold Has at h'
  rw [hb] at h'
  cases h'
theorem MapIs.off {w : World} {b g off : Nat} {L : List Nat} {v : Value} (h : MapIs w b L) (hc : w.cell? ⟨g, off, none⟩ = some v) : g ≠ b := by
  rintro rfl
  obtain ⟨n, D, ⟨es, c, hb, _⟩, _⟩ := h
  simp [World.cell?, hb] at hc
theorem MapIs.made (w : World) : MapIs (w.alloc (.map #[] 0)) w.heap.size [] :=
  ⟨0, _, World.ownsMap_made w _ _ _, fun k _ => ⟨fun h => (by cases h), fun _ => rfl⟩⟩
theorem own_few {w : World} {b n : Nat} {D : DataW Unit} {L : List Nat} (h : Mp12 w b n D) (hS : Says D L) : Mp12 w b (Maps.size D) D ∧ Maps.size D ≤ L.length := by
  obtain ⟨es, clock, hb, F, hs, rfl⟩ := h
  have hsz : Maps.size (.map ((es.toList.map (rg Try.prog 27 (plainElem (H := Unit) Try.prog 3))).foldr DataW.insert []) : DataW Unit) = es.size := by simp [Maps.size, length_sorted]
  refine ⟨⟨es, clock, hb, F, Nat.le_of_eq hsz.symm, rfl⟩, ?_⟩
  have hk := fun p (hp : p ∈ es.toList.map (rg Try.prog 27 (plainElem (H := Unit) Try.prog 3))) => Maps.fit_keys F p hp
  have hn := Maps.fit_apart keyed12 F
  have hmem : ∀ p ∈ es.toList.map (rg Try.prog 27 (plainElem (H := Unit) Try.prog 3)), ∃ k : Nat, p.1 = .int .u64 (k : Int) ∧ k ∈ L := fun p hp => by
    obtain ⟨v, hv⟩ := hk p hp
    obtain ⟨x, _, hx, hw⟩ := Maps.keyOf_int_inv Try.underlying27 hv
    have hb2 := u64_bounds hw
    obtain ⟨k, rfl⟩ : ∃ k : Nat, x = (k : Int) := ⟨x.toNat, by omega⟩
    refine ⟨k, hx, ?_⟩
    by_cases hkl : k ∈ L
    · exact hkl
    · have h1 := (hS k (by omega)).2 hkl
      rw [Maps.has_eq, List.any_eq_false] at h1
      have h2 := h1 p (mem_sorted.2 hp)
      rw [hx] at h2
      simp [Lit.sameKey] at h2
  rw [hsz]
  have h3 := nodup_sub_len ((es.toList.map (rg Try.prog 27 (plainElem (H := Unit) Try.prog 3))).map (fun p => match p.1 with | .int _ x => x.toNat | _ => 0)) L (by
    unfold List.Nodup
    rw [List.pairwise_map]
    refine List.Pairwise.imp_of_mem (fun {p q} hp hq hne he => ?_) hn
    obtain ⟨k, h1, _⟩ := hmem p hp
    obtain ⟨j, h2, _⟩ := hmem q hq
    rw [h1, h2] at he
    simp at he
    subst he
    exact hne (h1.trans h2.symm)) (fun x hx => by
    obtain ⟨p, hp, rfl⟩ := List.mem_map.1 hx
    obtain ⟨k, h1, h2⟩ := hmem p hp
    rw [h1]
    simpa using h2)
  simpa using h3
theorem says_put {D : DataW Unit} {L L' : List Nat} {v c : Nat} (hm : Maps.IsMap D) (hS : Says D L) (hv : v ∈ L') (hc : L'.count v = c) (ho : ∀ k, k ≠ v → L'.count k = L.count k) : Says (D.put (.int .u64 (v : Int)) (.lit (.int .i64 (c : Int)))) L' := fun k hk => by
  by_cases e : k = v
  · subst e
    refine ⟨fun _ z => ?_, fun h => absurd hv h⟩
    rw [Maps.atKey_put_same hm (show WideAt.IsKeyLit (.int .u64 (k : Int)) from trivial), hc]
  · have h1 := ho k e
    refine ⟨fun h z => ?_, fun h => ?_⟩
    · rw [Maps.atKey_put_other (lit_ne12 e), (hS k hk).1 (List.count_pos_iff.1 (by rw [← h1]; exact List.count_pos_iff.2 h)) z, h1]
    · rw [Maps.has_put_other (lit_ne12 e)]
      exact (hS k hk).2 (fun h2 => h (List.count_pos_iff.1 (by rw [h1]; exact List.count_pos_iff.2 h2)))
theorem says_del {D : DataW Unit} {L L' : List Nat} {v : Nat} (hS : Says D L) (hv : v ∉ L') (ho : ∀ k, k ≠ v → L'.count k = L.count k) : Says (D.del (.int .u64 (v : Int))) L' := fun k hk => by
  by_cases e : k = v
  · subst e
    exact ⟨fun h => absurd h hv, fun _ => Maps.has_del_same⟩
  · have h1 := ho k e
    refine ⟨fun h z => ?_, fun h => ?_⟩
    · rw [Maps.atKey_del_other (lit_ne12 e), (hS k hk).1 (List.count_pos_iff.1 (by rw [← h1]; exact List.count_pos_iff.2 h)) z, h1]
    · rw [Maps.has_del_other (lit_ne12 e)]
      exact (hS k hk).2 (fun h2 => h (List.count_pos_iff.1 (by rw [h1]; exact List.count_pos_iff.2 h2)))
theorem says_at {D : DataW Unit} {L : List Nat} {v : Nat} (hS : Says D L) (hv : v < 2 ^ 64) : D.atKey (.int .u64 (v : Int)) (.lit (.int .i64 0)) = .lit (.int .i64 (L.count v : Int)) := by
  by_cases h : v ∈ L
  · exact (hS v hv).1 h _
  · rw [Maps.atKey_of_not_has ((hS v hv).2 h), count_none.2 h]
    rfl
section
variable {w : World} {b : Nat} {L : List Nat} {mty : TypeId}
theorem zero_int12 (w : World) : (zeroValue 3).run Try.prog w = .ok (.int .i64 0) w := by kernel_rfl
theorem MapIs.look (h : MapIs w b L) {v : Nat} (hv : v < 2 ^ 64) (hm : Try.prog.underlying mty = some (.map 27 3)) : (Instr.lookup mty (.map (some b)) (.int .u64 (v : Int)) false).run Try.prog w = .ok (.int .i64 (L.count v : Int)) w := by
  obtain ⟨n, D, ho, hS⟩ := h
  obtain ⟨c, hrun, hat, _⟩ := ho.lookup_int keyed12 hm Try.underlying3 (zero_int12 w) (key12 hv)
  rw [says_at hS hv] at hat
  injection hat with hat
  injection hat with _ hat
  rw [hrun, ← hat]
theorem MapIs.put (h : MapIs w b L) {v c : Nat} {L' : List Nat} (hv : v < 2 ^ 64) (hl : L.length ≤ 1000) (hc2 : c ≤ 2000) (hm : Try.prog.underlying mty = some (.map 27 3)) (hvm : v ∈ L') (hc : L'.count v = c) (ho : ∀ k, k ≠ v → L'.count k = L.count k) :
    ∃ w', (Instr.mapUpdate mty (.map (some b)) (.int .u64 (v : Int)) (.int .i64 (c : Int))).run Try.prog w = .ok () w' ∧ MapIs w' b L' ∧ w.grownBy w' (some b) := by
  obtain ⟨n, D, h1, hS⟩ := h
  obtain ⟨h2, h3⟩ := own_few h1 hS
  obtain ⟨w', hrun, h4, h5⟩ := h2.update keyed12 hm (by unfold maxLen; omega) (key12 hv) (plainElem_int Try.underlying3 (wfi12 hc2))
  exact ⟨w', hrun, ⟨_, _, h4, says_put h1.isMap hS hvm hc ho⟩, h5⟩
theorem MapIs.drop (h : MapIs w b L) {v : Nat} {L' : List Nat} (hv : v < 2 ^ 64) (hm : Try.prog.underlying mty = some (.map 27 3)) (hvm : v ∉ L') (ho : ∀ k, k ≠ v → L'.count k = L.count k) (ty : TypeId) :
    ∃ w', (Builtin.delete_ #[mty, 27] ty #[.map (some b), .int .u64 (v : Int)]).run Try.prog w = .ok (.tuple #[]) w' ∧ MapIs w' b L' ∧ w.grownBy w' (some b) := by
  obtain ⟨n, D, h1, hS⟩ := h
  obtain ⟨w', hrun, h4, h5⟩ := h1.drop keyed12 hm (key12 hv) ty
  exact ⟨w', hrun, ⟨_, _, h4, says_del hS hvm ho⟩, h5.grown⟩
end
theorem cell_heap12 {w w' : World} {p : Addr} (h : w'.heap[p.block]? = w.heap[p.block]?) : w'.cell? p = w.cell? p := by unfold World.cell?; rw [h]
theorem below_turn {B : Nat} {w0 w w' : World} {mb : Nat} (h : Below B w0 w) (hg : w.grownBy w' (some mb)) (hB : B ≤ mb) (hs : B ≤ w.heap.size) : Below B w0 w' := h.grown hg hs (fun k hk => by injection hk with hk; subst hk; exact hB)
theorem Has.lone {w : World} {P : Nat} {t : TypeId} {v : Value} (h : Has w P t #[v]) {off : Nat} {u : Value} (hc : w.cell? ⟨P, off, none⟩ = some u) : u = v := by
  have h2 := h.cell off
  rw [hc] at h2
  cases off with
  | zero => simpa using h2
  | succ k => simp at h2
def MapOf (w : World) (m : Option Nat) (L : List Nat) : Prop := (m = none → L = []) ∧ ∀ b, m = some b → MapIs w b L
structure Pm (w : World) (P lo : Nat) (m : Option Nat) (L : List Nat) : Prop where
  hd : Has w P 46 #[.map m]
  mp : MapOf w m L
  lo : lo ≤ P ∧ ∀ b, m = some b → lo ≤ b
  srt : srtN L
  big : ∀ x ∈ L, x < 2 ^ 64
def Pn (w : World) (P lo : Nat) (L : List Nat) : Prop := ∃ m, Pm w P lo m L
theorem Pn.srt {w : World} {P lo : Nat} {L : List Nat} (h : Pn w P lo L) : srtN L := h.choose_spec.srt
theorem Pn.big {w : World} {P lo : Nat} {L : List Nat} (h : Pn w P lo L) : ∀ x ∈ L, x < 2 ^ 64 := h.choose_spec.big
theorem MapOf.below {w w' : World} {m : Option Nat} {L : List Nat} (h : MapOf w m L) (hb : Below w.heap.size w w') : MapOf w' m L := ⟨h.1, fun b e => (h.2 b e).keep (hb.block b (h.2 b e).lt)⟩
theorem Pm.below {w w' : World} {P lo : Nat} {m : Option Nat} {L : List Nat} (h : Pm w P lo m L) (hb : Below w.heap.size w w') : Pm w' P lo m L := ⟨h.hd.below hb h.hd.lt, h.mp.below hb, h.lo, h.srt, h.big⟩
theorem Pn.below {w w' : World} {P lo : Nat} {L : List Nat} (h : Pn w P lo L) (hb : Below w.heap.size w w') : Pn w' P lo L := h.imp fun _ h => h.below hb
def Turn (w w' : World) (P lo : Nat) : Prop := ∃ b, w.grownBy w' (some b) ∧ lo ≤ b ∧ (b = P ∧ (∃ m, Has w P 46 #[.map m]) ∨ ∃ L, MapIs w b L ∧ w.cell? ⟨P, 0, none⟩ = some (.map (some b)))
section
variable {w w' : World} {P lo : Nat}
theorem Turn.has (h : Turn w w' P lo) {g : Nat} {t : TypeId} {cs : Array Value} (hc : Has w g t cs) (ht : t ≠ 46) : Has w' g t cs := by
  obtain ⟨b, hg, _, ⟨rfl, m, hp⟩ | ⟨L, hm, _⟩⟩ := h
  · refine hc.grown hg (fun e => ?_)
    injection e with e
    subst e
    unfold Has at hc hp
    rw [hp] at hc
    injection hc with hc
    injection hc with _ hc
    exact ht hc.symm
  · exact hc.grown hg (fun e => hm.apart hc (by injection e))
theorem Turn.cell (h : Turn w w' P lo) {g off : Nat} {k : IntKind} {x : Int} (hc : w.cell? ⟨g, off, none⟩ = some (.int k x)) : w'.cell? ⟨g, off, none⟩ = some (.int k x) := by
  have hlt := World.block_lt_of_cell? w _ hc
  obtain ⟨b, hg, _, ⟨rfl, m, hp⟩ | ⟨L, hm, _⟩⟩ := h
  · refine (cell_heap12 (p := ⟨g, off, none⟩) (hg.block g hlt (fun e => ?_))).trans hc
    injection e with e
    subst e
    cases hp.lone hc
  · have hne := hm.off hc
    exact (cell_heap12 (p := ⟨g, off, none⟩) (hg.block g hlt (fun e => hne (by injection e)))).trans hc
theorem Turn.below {B : Nat} {w0 : World} (h : Turn w w' P lo) (hb : Below B w0 w) (hB : B ≤ lo) (hs : B ≤ w.heap.size) : Below B w0 w' := by
  obtain ⟨b, hg, hl, _⟩ := h
  exact below_turn hb hg (Nat.le_trans hB hl) hs
theorem Turn.row (h : Turn w w' P lo) {A : Option Addr} {n c : Nat} {l : List Nat} (hr : RowU w A n c l) : RowU w' A n c l := by
  have hsz : w.heap.size ≤ w'.heap.size := by
    obtain ⟨b, hg, _⟩ := h
    exact hg.size
  refine ⟨⟨hr.arg.len, fun hx => ?_, fun hn a ha => Nat.lt_of_lt_of_le (hr.arg.old hn a ha) hsz, hr.arg.room, hr.arg.most, hr.arg.big⟩, hr.nil⟩
  obtain ⟨g, off, e, hc⟩ := hr.arg.reads hx
  refine ⟨g, off, e, fun j u hj => ?_⟩
  have h1 := hc j u hj
  rw [List.getElem?_map] at hj
  cases hq : l[j]? with
  | none => rw [hq] at hj; cases hj
  | some z =>
    rw [hq] at hj
    obtain rfl : u64V z = u := by simpa using hj
    exact h.cell (off := off + j) h1
end
structure StA12 (w : World) (A : Option Addr) (n : Nat) (l : List (Int × Nat)) : Prop where
  len : n = l.length
  reads : 0 < n → ∃ b off, A = some ⟨b, off, none⟩ ∧ b < w.heap.size ∧ ∀ i x, l[i]? = some x → w.cell? ⟨b, off + i * 2, none⟩ = some (.int .i64 x.1) ∧ w.cell? ⟨b, off + i * 2 + 1, none⟩ = some (.int .u64 (x.2 : Int))
  big : ∀ x ∈ l, x.2 < 2 ^ 64
end Go.Proofs.Ytlfmmmgdilencaa
end

section
namespace Go.Proofs.Ytlfmmmgdilencaa
open Go.ChangeShapes Go.WideShapes Go.ChangeAt Go.RowKit Go.Deep
set_option linter.unusedVariables false

set_option maxRecDepth 100000 in
theorem arg_steps12 {H : Type} {enc : TypeId × Value → H} {W : World} {A : Option Addr} {n c : Nat} {d : DataW H} {p : List MemPlace} (h : DataW.Trod enc Try.prog W 0 (fun _ => true) true 22 (.slice A n c) d p) :
    ∃ l : List (Int × Nat), StA12 W A n l ∧ n ≤ 9223372036854775807 := by
  obtain ⟨fuel, hf⟩ := h
  rcases open_slice Try.underlying22 hf with ⟨hcs, _⟩ | ⟨x, l, c', m, fu, D, Pl, hcs, _, hl, hm, hmm, _, hx⟩
  · simp [Value.cells] at hcs
    obtain ⟨rfl, rfl, rfl⟩ := hcs
    exact ⟨[], ⟨rfl, fun h => absurd h (Nat.lt_irrefl 0), fun x hx => by cases hx⟩, by omega⟩
  · simp [Value.cells] at hcs
    obtain ⟨rfl, rfl, rfl⟩ := hcs
    have hmn : n ≤ m := by rw [hmm]; split <;> omega
    have hnm : n ≤ 9223372036854775807 := by
      have : c ≤ 9223372036854775807 := by simpa [maxLen] using hm
      omega
    have ce : Try.prog.cellsOf 29 = 2 := by kernel_rfl
    have c1 : Try.prog.cellsOf 3 = 1 := by kernel_rfl
    have c2 : Try.prog.cellsOf 27 = 1 := by kernel_rfl
    have each : ∀ i, i < n → ∃ q : Int × Nat, (W.cell? (x.add (i * 2)) = some (.int .i64 q.1) ∧ W.cell? (x.add (i * 2 + 1)) = some (.int .u64 (q.2 : Int))) ∧ q.2 < 2 ^ 64 := fun i hin => by
      obtain ⟨cs', h1, h2⟩ := hx i (by omega)
      rw [ce] at h1
      obtain ⟨_, hlen, hcell⟩ := World.cells?_some h1
      obtain ⟨xs, k, hk, hxy, _, hxl, hg⟩ := DataW.trod_struct Try.underlying29 h2
      match xs, hxl, cs', hlen with
      | [y0, y1], _, [v0, v1], _ =>
        have g0 := hg 0 _ rfl
        have g1 := hg 1 _ rfl
        simp [c1, c2] at g0 g1
        obtain ⟨k0, hk0, _, _⟩ := DataW.trod_int Try.underlying3 g0
        obtain ⟨k1, hk1, _, w1⟩ := DataW.trod_int Try.underlying27 g1
        simp at hk0 hk1
        subst hk0 hk1
        have b1 := u64_bounds w1
        have e0 := hcell 0 (by omega)
        have e1 := hcell 1 (by omega)
        rw [add_add] at e0 e1
        refine ⟨(k0, k1.toNat), ⟨by simpa using e0, ?_⟩, by show k1.toNat < _; omega⟩
        have e2 : ((k1.toNat : Nat) : Int) = k1 := by omega
        show W.cell? _ = some (.int .u64 ((k1.toNat : Nat) : Int))
        rw [e2]
        simpa using e1
    obtain ⟨q, hq⟩ := @choose_lt _ ⟨((0 : Int), (0 : Nat))⟩ _ _ each
    refine ⟨(List.range n).map q, ⟨by simp, fun hn => ?_, fun y hy => ?_⟩, hnm⟩
    · obtain ⟨b, off, spot⟩ := x
      have h00 := (hq 0 hn).1.1
      have hspot : spot = none := by simpa [Addr.add] using World.cell?_spot h00
      subst hspot
      refine ⟨b, off, rfl, World.block_lt_of_cell? W _ (by simpa [Addr.add] using h00), fun i y hy => ?_⟩
      have hin : i < n := by
        have := (List.getElem?_eq_some_iff.1 hy).1
        simpa using this
      simp [hin] at hy
      subst hy
      obtain ⟨z0, z1⟩ := (hq i hin).1
      rw [add_plain] at z0 z1
      rw [← Nat.add_assoc] at z1
      exact ⟨z0, z1⟩
    · obtain ⟨i, hi, rfl⟩ := List.mem_map.1 hy
      exact (hq i (List.mem_range.1 hi)).2
end Go.Proofs.Ytlfmmmgdilencaa
end
