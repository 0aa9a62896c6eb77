import Derived.Test.YtoelojlabmconaaJ00
import Derived.Test.YtoelojlabmconaaJ19
import Derived.Deep.Slices
import Derived.SliceStrings
import Derived.ProofKit
import Derived.OpenShut
import Derived.ShutString
import Derived.ChangeOld
import Derived.SizedLaws
/- Of a claim's texts, joined: Arg13 PoTells. No statement but in the last. -/
section
namespace Go.Proofs.Ytoelojlabmconaa
open Go.ChangeShapes Go.WideShapes Go.ChangeAt Go.RowKit Go.Deep
set_option linter.unusedVariables false

section
variable {H : Type} {enc : TypeId × Value → H} {W : World}
theorem i64_bounds13 {n : Int} (h : (Lit.int .i64 n).wf = true) : -9223372036854775808 ≤ n ∧ n ≤ 9223372036854775807 := by
  simp [Lit.wf, IntKind.min, IntKind.max, IntKind.signed, IntKind.bits] at h
  omega
theorem weights_all13 {P : Program} {e : TypeId} {elems : List (DataW H)} {d : DataW H} (hd : d ∈ elems) {n : Nat} (hn : n ∈ d.weights P e) : n ∈ DataW.weightsAll P e elems := by
  induction elems with
  | nil => cases hd
  | cons x r ih =>
    unfold DataW.weightsAll
    rcases List.mem_cons.1 hd with rfl | h
    · exact List.mem_append_left _ hn
    · exact List.mem_append_right _ (ih h)
set_option maxRecDepth 100000 in
theorem arg_rowZ {fuel : Nat} {v : Value} {d : DataW H} {p : List MemPlace} (h : DataW.trod enc Try.prog W 0 (fun _ => true) true fuel 22 [v] = some (d, p)) (hw : ∀ n ∈ d.weights Try.prog 22, n ≤ reachBytes) :
    ∃ A n c l, v = .slice A n c ∧ RowZ W A n c l ∧ l.length ≤ 140737488355328 := by
  rcases open_ints Try.underlying22 Try.underlying3 (by kernel_rfl) h with ⟨hcs, _⟩ | ⟨x, n, c, zs, hcs, _, hl, hm, hz, hx, hcell, hwz⟩
  · simp at hcs
    exact ⟨none, 0, 0, [], hcs, RowZ.none_ W, Nat.zero_le _⟩
  · simp at hcs
    have hz' : zs.length = c := by simpa using hz
    have hdd : d = .slice (lits .i64 (zs.take n)) (lits .i64 (zs.drop n)) := congrArg Prod.fst hx
    have hb : Try.prog.bytesOf 3 = 8 := by kernel_rfl
    have h3 := hw ((lits (H := H) .i64 (zs.take n)).length * 8 + (lits (H := H) .i64 (zs.drop n)).length * 8) (by
      rw [hdd]
      unfold DataW.weights
      rw [Try.underlying22]
      refine List.mem_cons.2 (Or.inl ?_)
      rw [hb, Nat.add_mul])
    have hll : (lits (H := H) .i64 (zs.take n)).length = (zs.take n).length := by simp [lits]
    rw [hll] at h3
    refine ⟨some x, n, c, zs.take n, hcs, ⟨by simp; omega, fun hn => ?_, fun e => (by cases e), hl, hm⟩, by unfold reachBytes at h3; omega⟩
    have hn0 : 0 < n := by simp at hn; omega
    obtain ⟨b, off, spot⟩ := x
    have h0 := hcell 0 (by omega)
    have hspot : spot = none := by simpa [Addr.add] using World.cell?_spot h0
    subst hspot
    refine ⟨b, off, rfl, fun i y hy => ?_⟩
    have hin : i < n := by
      have := (List.getElem?_eq_some_iff.1 hy).1
      simp at this
      omega
    have hiz : i < zs.length := by omega
    have h2 := hcell i hiz
    rw [add_plain] at h2
    rw [h2]
    simp [hin, List.getElem?_eq_getElem hiz] at hy ⊢
    exact hy
set_option maxRecDepth 100000 in
theorem arg_waits13 {fuel : Nat} {v : Value} {d : DataW H} {p : List MemPlace} (h : DataW.trod enc Try.prog W 0 (fun _ => true) true fuel 23 [v] = some (d, p)) (hw : ∀ n ∈ d.weights Try.prog 23, n ≤ reachBytes) :
    ∃ B m dd l, v = .slice B m dd ∧ WaitsA W B m dd l ∧ ∀ x ∈ l, x.2.length ≤ 140737488355328 := by
  rcases open_slice Try.underlying23 h with ⟨hcs, _⟩ | ⟨x, n, c', m, fu, D, Pl, hcs, _, hl, hm, hmm, hdp, hx⟩
  · simp at hcs
    exact ⟨none, 0, 0, [], hcs, ⟨rfl, fun h => absurd h (Nat.lt_irrefl 0), Nat.le_refl _, Nat.zero_le _, fun x hx => by cases hx⟩, fun x hx => by cases hx⟩
  · simp at hcs
    have hmn : n ≤ m := by rw [hmm]; split <;> omega
    have hdd : d = .slice ((List.range n).map D) ((List.range (m - n)).map fun j => D (n + j)) := congrArg Prod.fst hdp
    have ce : Try.prog.cellsOf 56 = 2 := by kernel_rfl
    have c1 : Try.prog.cellsOf 43 = 1 := by kernel_rfl
    have c2 : Try.prog.cellsOf 22 = 1 := by kernel_rfl
    have each : ∀ i, i < n → ∃ q : Nat × List Int, W.cell? (x.add (i * 2)) = some (.int .u64 (q.1 : Int)) ∧ (∃ A n c, W.cell? (x.add (i * 2 + 1)) = some (.slice A n c) ∧ RowZ W A n c q.2) ∧ q.1 < 2 ^ 64 ∧ q.2.length ≤ 140737488355328 := fun i hin => by
      obtain ⟨cs', h1, h2⟩ := hx i (by omega)
      rw [ce] at h1
      obtain ⟨_, hlen, hcell⟩ := World.cells?_some h1
      obtain ⟨xs, k, hk, hxy, _, hxl, hg⟩ := DataW.trod_struct Try.underlying56 h2
      match xs, hxl, cs', hlen with
      | [y0, (d1, p1)], _, [v0, v1], _ =>
        have g0 := hg 0 _ rfl
        have g1 := hg 1 _ rfl
        simp [c1, c2] at g0 g1
        obtain ⟨k0, hk0, _, w0⟩ := DataW.trod_int Try.underlying43 g0
        simp at hk0
        subst hk0
        have b0 := u64_bounds w0
        have hDi : D i = .agg ([y0, (d1, p1)].map (·.1)) := congrArg Prod.fst hxy
        obtain ⟨A, n1, c1', l1, rfl, hr, hl1⟩ := arg_rowZ g1 (fun n hn => hw n (by
          rw [hdd]
          unfold DataW.weights
          rw [Try.underlying23]
          refine List.mem_cons_of_mem _ (List.mem_append_left _ (weights_all13 (d := D i) (List.mem_map.2 ⟨i, List.mem_range.2 hin, rfl⟩) ?_))
          rw [hDi]
          unfold DataW.weights
          rw [Try.underlying56]
          exact List.mem_append_right _ (List.mem_append_left _ hn)))
        have e0 := hcell 0 (by omega)
        have e1 := hcell 1 (by omega)
        rw [add_add] at e0 e1
        refine ⟨(k0.toNat, l1), ?_, ⟨A, n1, c1', by simpa using e1, hr⟩, by show k0.toNat < _; omega, hl1⟩
        have e2 : ((k0.toNat : Nat) : Int) = k0 := by omega
        show W.cell? _ = some (.int .u64 ((k0.toNat : Nat) : Int))
        rw [e2]
        simpa using e0
    obtain ⟨q, hq⟩ := @choose_lt _ ⟨((0 : Nat), ([] : List Int))⟩ _ _ each
    refine ⟨some x, n, c', (List.range n).map q, hcs, ⟨by simp, fun hn => ?_, hl, hm, fun y hy => ?_⟩, fun y hy => ?_⟩
    · obtain ⟨b, off, spot⟩ := x
      have h00 := (hq 0 hn).1
      have hspot : spot = none := by simpa [Addr.add] using World.cell?_spot h00
      subst hspot
      refine ⟨b, off, rfl, World.block_lt_of_cell? W _ (by simpa [Addr.add] using h00), fun i y hy => ?_⟩
      have hin : i < n := by
        have := (List.getElem?_eq_some_iff.1 hy).1
        simpa using this
      simp [hin] at hy
      subst hy
      obtain ⟨z0, ⟨A, n1, c1', z1, z2⟩, _⟩ := hq i hin
      rw [add_plain] at z0 z1
      rw [← Nat.add_assoc] at z1
      exact ⟨z0, A, n1, c1', z1, z2⟩
    · obtain ⟨i, hi, rfl⟩ := List.mem_map.1 hy
      exact (hq i (List.mem_range.1 hi)).2.2.1
    · obtain ⟨i, hi, rfl⟩ := List.mem_map.1 hy
      exact (hq i (List.mem_range.1 hi)).2.2.2
set_option maxRecDepth 100000 in
theorem arg_pool13 {v : Value} {d : DataW H} {p : List MemPlace} (hv : ∃ cs, v = .agg cs ∧ cs.size = Try.prog.cellsOf 25) (h : DataW.Trod enc Try.prog W 0 (fun _ => true) true 25 v d p)
    {ts : List TypeId} {ds : List (DataW H)} (hsz : (DataW.weightsEach Try.prog ts ds).all (· ≤ reachBytes) = true) {j : Nat} (ht : ts[j]? = some 25) (hd : ds[j]? = some d) :
    ∃ (pp : Pd) (A : Option Addr) (n c : Nat) (B : Option Addr) (m dd : Nat), v = .agg #[.int .i64 pp.hi, .slice A n c, .slice B m dd] ∧ PoolA W A n c B m dd pp ∧ pp.free.length ≤ 140737488355328 ∧ ∀ x ∈ pp.wait, x.2.length ≤ 140737488355328 := by
  obtain ⟨cs, rfl, hcs⟩ := hv
  have cn : Try.prog.cellsOf 25 = 3 := by kernel_rfl
  have c0 : Try.prog.cellsOf 3 = 1 := by kernel_rfl
  have c1 : Try.prog.cellsOf 22 = 1 := by kernel_rfl
  have c2 : Try.prog.cellsOf 23 = 1 := by kernel_rfl
  obtain ⟨fuel, hf⟩ := h
  obtain ⟨xs, k, _, hxy, hlen, hxl, hg⟩ := DataW.trod_struct Try.underlying25 hf
  obtain ⟨cl⟩ := cs
  simp [Value.cells] at hlen
  rw [cn] at hlen
  match xs, hxl, cl, hlen with
  | [y0, (d1, p1), (d2, p2)], _, [v0, v1, v2], _ =>
    have g0 := hg 0 _ rfl
    have g1 := hg 1 _ rfl
    have g2 := hg 2 _ rfl
    simp [Value.cells, c0, c1, c2] at g0 g1 g2
    obtain ⟨k0, hk0, _, _⟩ := DataW.trod_int Try.underlying3 g0
    simp at hk0
    subst hk0
    have hdd : d = .agg ([y0, (d1, p1), (d2, p2)].map (·.1)) := congrArg Prod.fst hxy
    have hall : ∀ n, n ∈ d.weights Try.prog 25 → n ≤ reachBytes := fun n hm => by
      have := List.all_eq_true.1 hsz _ (DataW.weights_mem_each ht hd _ hm)
      simpa using this
    obtain ⟨A, n, c, l, rfl, hr, hl⟩ := arg_rowZ g1 (fun n hn => hall n (by
      rw [hdd]
      unfold DataW.weights
      rw [Try.underlying25]
      exact List.mem_append_right _ (List.mem_append_left _ hn)))
    obtain ⟨B, m, dd, l2, rfl, hr2, hl2⟩ := arg_waits13 g2 (fun n hn => hall n (by
      rw [hdd]
      unfold DataW.weights
      rw [Try.underlying25]
      exact List.mem_append_right _ (List.mem_append_right _ (List.mem_append_left _ hn))))
    exact ⟨⟨k0, l, l2⟩, A, n, c, B, m, dd, rfl, ⟨hr, hr2⟩, hl, hl2⟩
set_option maxRecDepth 100000 in
theorem arg_steps13 {A : Option Addr} {n c : Nat} {d : DataW H} {p : List MemPlace} (h : DataW.Trod enc Try.prog W 0 (fun _ => true) true 41 (.slice A n c) d p) :
    ∃ l : List (Int × Int × Nat), StA13 W A n l ∧ n ≤ 9223372036854775807 := by
  obtain ⟨fuel, hf⟩ := h
  rcases open_slice Try.underlying41 hf with ⟨hcs, _⟩ | ⟨x, l, c', m, fu, D, Pl, hcs, _, hl, hm, hmm, _, hx⟩
  · simp [Value.cells] at hcs
    obtain ⟨rfl, rfl, rfl⟩ := hcs
    exact ⟨[], ⟨rfl, fun h => absurd h (Nat.lt_irrefl 0), fun x hx => (by cases hx), fun x hx => (by cases hx)⟩, by omega⟩
  · simp [Value.cells] at hcs
    obtain ⟨rfl, rfl, rfl⟩ := hcs
    have hmn : n ≤ m := by rw [hmm]; split <;> omega
    have hnm : n ≤ 9223372036854775807 := by
      have : c ≤ 9223372036854775807 := by simpa [maxLen] using hm
      omega
    have ce : Try.prog.cellsOf 45 = 3 := by kernel_rfl
    have c1 : Try.prog.cellsOf 3 = 1 := by kernel_rfl
    have c2 : Try.prog.cellsOf 43 = 1 := by kernel_rfl
    have each : ∀ i, i < n → ∃ q : Int × Int × Nat, (W.cell? (x.add (i * 3)) = some (.int .i64 q.1) ∧ W.cell? (x.add (i * 3 + 1)) = some (.int .i64 q.2.1) ∧ W.cell? (x.add (i * 3 + 2)) = some (.int .u64 (q.2.2 : Int))) ∧ q.2.2 < 2 ^ 64 ∧ (-9223372036854775808 ≤ q.2.1 ∧ q.2.1 ≤ 9223372036854775807) := fun i hin => by
      obtain ⟨cs', h1, h2⟩ := hx i (by omega)
      rw [ce] at h1
      obtain ⟨_, hlen, hcell⟩ := World.cells?_some h1
      obtain ⟨xs, k, hk, hxy, _, hxl, hg⟩ := DataW.trod_struct Try.underlying45 h2
      match xs, hxl, cs', hlen with
      | [y0, y1, y2], _, [v0, v1, v2], _ =>
        have g0 := hg 0 _ rfl
        have g1 := hg 1 _ rfl
        have g2 := hg 2 _ rfl
        simp [c1, c2] at g0 g1 g2
        obtain ⟨k0, hk0, _, _⟩ := DataW.trod_int Try.underlying3 g0
        obtain ⟨k1, hk1, _, w1⟩ := DataW.trod_int Try.underlying3 g1
        obtain ⟨k2, hk2, _, w2⟩ := DataW.trod_int Try.underlying43 g2
        simp at hk0 hk1 hk2
        subst hk0 hk1 hk2
        have b1 := i64_bounds13 w1
        have b2 := u64_bounds w2
        have e0 := hcell 0 (by omega)
        have e1 := hcell 1 (by omega)
        have e2 := hcell 2 (by omega)
        rw [add_add] at e0 e1 e2
        refine ⟨(k0, k1, k2.toNat), ⟨by simpa using e0, by simpa using e1, ?_⟩, by show k2.toNat < _; omega, b1⟩
        have e3 : ((k2.toNat : Nat) : Int) = k2 := by omega
        show W.cell? _ = some (.int .u64 ((k2.toNat : Nat) : Int))
        rw [e3]
        simpa using e2
    obtain ⟨q, hq⟩ := @choose_lt _ ⟨((0 : Int), (0 : Int), (0 : Nat))⟩ _ _ each
    refine ⟨(List.range n).map q, ⟨by simp, fun hn => ?_, fun y hy => ?_, fun y hy => ?_⟩, hnm⟩
    · obtain ⟨b, off, spot⟩ := x
      have h00 := (hq 0 hn).1.1
      have hspot : spot = none := by simpa [Addr.add] using World.cell?_spot h00
      subst hspot
      refine ⟨b, off, rfl, World.block_lt_of_cell? W _ (by simpa [Addr.add] using h00), fun i y hy => ?_⟩
      have hin : i < n := by
        have := (List.getElem?_eq_some_iff.1 hy).1
        simpa using this
      simp [hin] at hy
      subst hy
      obtain ⟨z0, z1, z2⟩ := (hq i hin).1
      rw [add_plain] at z0 z1 z2
      rw [← Nat.add_assoc] at z1 z2
      exact ⟨z0, z1, z2⟩
    · obtain ⟨i, hi, rfl⟩ := List.mem_map.1 hy
      exact (hq i (List.mem_range.1 hi)).2.1
    · obtain ⟨i, hi, rfl⟩ := List.mem_map.1 hy
      exact (hq i (List.mem_range.1 hi)).2.2
end
end Go.Proofs.Ytoelojlabmconaa
end

section
namespace Go.Proofs.Ytoelojlabmconaa
open Go.RowKit
set_option linter.unusedVariables false

structure Tl13 (W wP w5 : World) (h : Int) (A : Option Addr) (n c : Nat) (B : Option Addr) (m d : Nat) (B5 : Option Addr) (d5 : Nat) (p : Pd) (w : World) : Prop where
  hp : Has w W.heap.size 25 #[.int .i64 h, .slice A n c, .slice B m d]
  hw : Has w w5.heap.size 30 #[.int .i64 h, .slice A n c, .slice B5 m d5]
  pp : PoolA w A n c B m d p
  pw : PoolA w A n c B5 m d5 p
  bel : Below W.heap.size W w
theorem Tl13.below {W wP w5 : World} {h : Int} {A : Option Addr} {n c : Nat} {B : Option Addr} {m d : Nat} {B5 : Option Addr} {d5 : Nat} {p : Pd} {w w' : World} (x : Tl13 W wP w5 h A n c B m d B5 d5 p w) (b : Below w.heap.size w w') : Tl13 W wP w5 h A n c B m d B5 d5 p w' :=
  ⟨x.hp.below b x.hp.lt, x.hw.below b x.hw.lt, x.pp.below b, x.pw.below b, below_step x.bel b⟩
set_option maxRecDepth 100000 in
set_option maxHeartbeats 16000000 in
theorem walkPoolTells (p : Pd) (h q : Int) (hhi : p.hi = h) (A B : Option Addr) (n c m d : Nat) (W : World) (hp : PoolA W A n c B m d p) (hf : p.free.length ≤ 140737488355328) (hw : ∀ x ∈ p.wait, x.2.length ≤ 140737488355328) :
    Calls Try.prog 3 #[.agg #[.int .i64 h, .slice A n c, .slice B m d], .int .i64 q] W fun e W' => e = .returned (.bool true) ∧ Below W.heap.size W W' := by
  have hmx : Try.prog.follows .mixedOrders = true := by kernel_rfl
  obtain ⟨wP, hwP⟩ : ∃ wP, W.alloc (.cells #[.int .i64 h, .slice A n c, .slice B m d] 25) = wP := ⟨_, rfl⟩
  have HX := Lib.hid (BoxP.made (h := h) hp hwP)
  have HWP := Lib.hid hwP
  have HAW := Lib.hid (awake13_any wP)
  have HSM := Lib.hid (fun w1 (b1 : Below wP.heap.size wP w1) => small13_any p h hhi (HX.out w1 b1).2 hf hw)
  have HBX := Lib.hid (fun w1 (b1 : Below wP.heap.size wP w1) => below_box hwP b1)
  clear hp hwP hf hw
  cases hsm : smallP p with
  | false =>
    rw [hsm] at HSM
    go_enter Try.func3, Try.ntmps3
    go_wp2_with (first
      | (go_at_call 7; (try rw [HWP.out]); (with_reducible refine HAW.out.mono ?_); rintro e w1 ⟨rfl, b1⟩; have B1 := Lib.hid b1; have a0 := (HX.out w1 b1).1.cell 0; have a1 := (HX.out w1 b1).1.cell 1; have a2 := (HX.out w1 b1).1.cell 2; clear b1)
      | (go_at_call 8; (with_reducible refine (HSM.out _ B1.out).mono ?_); rintro e w2 ⟨rfl, b2⟩; have B2 := Lib.hid (below_step B1.out b2); clear b2))
    go_ret
    exact ⟨rfl, HBX.out _ B2.out⟩
  | true =>
    rw [hsm] at HSM
    by_cases hq1 : 1099511627776 < q
    · go_enter Try.func3, Try.ntmps3
      go_wp2_with (first
        | (go_at_call 7; (try rw [HWP.out]); (with_reducible refine HAW.out.mono ?_); rintro e w1 ⟨rfl, b1⟩; have B1 := Lib.hid b1; have a0 := (HX.out w1 b1).1.cell 0; have a1 := (HX.out w1 b1).1.cell 1; have a2 := (HX.out w1 b1).1.cell 2; clear b1)
        | (go_at_call 8; (with_reducible refine (HSM.out _ B1.out).mono ?_); rintro e w2 ⟨rfl, b2⟩; have B2 := Lib.hid (below_step B1.out b2); clear b2))
      go_ret
      exact ⟨rfl, HBX.out _ B2.out⟩
    by_cases hq2 : q < -1099511627776
    · go_enter Try.func3, Try.ntmps3
      go_wp2_with (first
        | (go_at_call 7; (try rw [HWP.out]); (with_reducible refine HAW.out.mono ?_); rintro e w1 ⟨rfl, b1⟩; have B1 := Lib.hid b1; have a0 := (HX.out w1 b1).1.cell 0; have a1 := (HX.out w1 b1).1.cell 1; have a2 := (HX.out w1 b1).1.cell 2; clear b1)
        | (go_at_call 8; (with_reducible refine (HSM.out _ B1.out).mono ?_); rintro e w2 ⟨rfl, b2⟩; have B2 := Lib.hid (below_step B1.out b2); clear b2))
      go_ret
      exact ⟨rfl, HBX.out _ B2.out⟩
    have hsr := smallP_says hsm
    have hs := hsr
    unfold smallR at hs
    have hm1 : ∀ w1, PoolA w1 A n c B m d p → m ≤ 1000 := fun w1 h1 => by have := h1.wait.len; omega
    have HPL := Lib.hid (fun w1 (b1 : Below wP.heap.size wP w1) => plain13_any p h (HX.out w1 b1).2 (hm1 w1 (HX.out w1 b1).2))
    have HC1 : Hid (∀ w1, ∀ (w5 : World) B5 d5, Tl13 W wP w5 h A n c B m d B5 d5 p w1 → _) := Lib.hid (fun w1 w5 B5 d5 x => oCheck13_any p h q hhi x.pp hsr)
    have HC2 : Hid (∀ w1, ∀ (w5 : World) B5 d5, Tl13 W wP w5 h A n c B m d B5 d5 p w1 → _) := Lib.hid (fun w1 w5 B5 d5 x => r13Check_any p h q hhi x.pw (by omega))
    have HR1 : Hid (∀ w1, ∀ (w5 : World) B5 d5, Tl13 W wP w5 h A n c B m d B5 d5 p w1 → _) := Lib.hid (fun w1 w5 B5 d5 x => oRoom13_any p h q hhi x.pp hsr (by omega))
    have HR2 : Hid (∀ w1, ∀ (w5 : World) B5 d5, Tl13 W wP w5 h A n c B m d B5 d5 p w1 → _) := Lib.hid (fun w1 w5 B5 d5 x => (by have := r13Room_any q x.pw (by omega) (by omega) (by omega); rw [hhi] at this; exact this : Calls Try.prog 13 #[.agg #[.int .i64 h, .slice A n c, .slice B5 m d5], .int .i64 q] w1 fun e w' => e = .returned (.int .i64 (roomP p q)) ∧ Below w1.heap.size w1 w'))
    have HW1 : Hid (∀ w1, ∀ (w5 : World) B5 d5, Tl13 W wP w5 h A n c B m d B5 d5 p w1 → _) := Lib.hid (fun w1 w5 B5 d5 x => oWait13_any p h hhi x.pp hsr)
    have HW2 : Hid (∀ w1, ∀ (w5 : World) B5 d5, Tl13 W wP w5 h A n c B m d B5 d5 p w1 → _) := Lib.hid (fun w1 w5 B5 d5 x => r13Wait_any h x.pw (by omega))
    have HL1 : Hid (∀ w1, ∀ (w5 : World) B5 d5, Tl13 W wP w5 h A n c B m d B5 d5 p w1 → _) := Lib.hid (fun w1 w5 B5 d5 x => oList13_any p h hhi x.pp hsr)
    have HL2 : Hid (∀ w1, ∀ (w5 : World) B5 d5, Tl13 W wP w5 h A n c B m d B5 d5 p w1 → _) := Lib.hid (fun w1 w5 B5 d5 x => r13List_any h x.pw (by omega))
    have hlen : (listedP p).length ≤ 1000000 := by
      unfold listedP
      rw [(srtZ_perm _).length_eq, List.length_append]
      omega
    have HIN := Lib.hid (fun w1 A7 A8 n7 c7 c8 (r7 : RowZ w1 A7 n7 c7 (listedP p)) (r8 : RowZ w1 A8 n7 c8 (listedP p)) => r3Ints_z (listedP p) A7 A8 n7 c7 c8 w1 r7.len r7.reads r8.reads (by rw [r7.len]; exact hlen))
    unfold RowZEnd at HL1 HL2
    generalize checkP p q = ch at HC1 HC2
    generalize roomP p q = ro at HR1 HR2
    generalize ((catZ p.wait).length : Int) = wa at HW1 HW2
    clear hs hsr hm1 hlen hsm
    go_enter Try.func3, Try.ntmps3
    go_wp2_with (first
      | (go_at_call 7; (try rw [HWP.out]); (with_reducible refine HAW.out.mono ?_); rintro e w1 ⟨rfl, b1⟩; have B1 := Lib.hid b1; have a0 := (HX.out w1 b1).1.cell 0; have a1 := (HX.out w1 b1).1.cell 1; have a2 := (HX.out w1 b1).1.cell 2; clear b1)
      | (go_at_call 8; (with_reducible refine (HSM.out _ B1.out).mono ?_); rintro e w2 ⟨rfl, b2⟩; have B2 := Lib.hid (below_step B1.out b2); have f0 := (HX.out w2 B2.out).1.cell 0; have f1 := (HX.out w2 B2.out).1.cell 1; have f2 := (HX.out w2 B2.out).1.cell 2; clear b2)
      | (go_at_call 9; (with_reducible refine (HPL.out _ B2.out).mono ?_); rintro e w5 ⟨B5, d5, rfl, p5, b5⟩; have B6 := Lib.hid (below_step B2.out b5); obtain ⟨W5, hW5⟩ : ∃ W5, w5.alloc (.cells #[.int .i64 h, .slice A n c, .slice B5 m d5] 30) = W5 := ⟨_, rfl⟩; have X5 : Hid (Tl13 W wP w5 h A n c B m d B5 d5 p W5) := Lib.hid (by
          have bb : Below w5.heap.size w5 W5 := hW5 ▸ (Below.refl _ w5).alloc (Nat.le_refl _) _
          obtain ⟨y1, y2⟩ := HX.out _ (below_step B6.out bb)
          exact ⟨y1, hW5 ▸ Has.made w5 _ _, y2, p5.below bb, HBX.out _ (below_step B6.out bb)⟩); have HW5 := Lib.hid hW5; clear b5 p5 hW5))
    try rw [HW5.out]
    have hSd := X5.out.below (Below.refl _ _).drew
    have HC1 := Lib.hid (fun w1 (x : Tl13 W wP w5 h A n c B m d B5 d5 p w1) => HC1.out w1 w5 B5 d5 x)
    have HC2 := Lib.hid (fun w1 (x : Tl13 W wP w5 h A n c B m d B5 d5 p w1) => HC2.out w1 w5 B5 d5 x)
    have HR1 := Lib.hid (fun w1 (x : Tl13 W wP w5 h A n c B m d B5 d5 p w1) => HR1.out w1 w5 B5 d5 x)
    have HR2 := Lib.hid (fun w1 (x : Tl13 W wP w5 h A n c B m d B5 d5 p w1) => HR2.out w1 w5 B5 d5 x)
    have HW1 := Lib.hid (fun w1 (x : Tl13 W wP w5 h A n c B m d B5 d5 p w1) => HW1.out w1 w5 B5 d5 x)
    have HW2 := Lib.hid (fun w1 (x : Tl13 W wP w5 h A n c B m d B5 d5 p w1) => HW2.out w1 w5 B5 d5 x)
    have HL1 := Lib.hid (fun w1 (x : Tl13 W wP w5 h A n c B m d B5 d5 p w1) => HL1.out w1 w5 B5 d5 x)
    have HL2 := Lib.hid (fun w1 (x : Tl13 W wP w5 h A n c B m d B5 d5 p w1) => HL2.out w1 w5 B5 d5 x)
    first | (rename_i K hK; refine wp_held (fun w' : World => Tl13 W wP w5 h A n c B m d B5 d5 p w') K hmx ?_ (fun _ _ h => h)) | (rename_i K hK hz; refine wp_held (fun w' : World => Tl13 W wP w5 h A n c B m d B5 d5 p w') K hmx ?_ (fun _ _ h => h))
    refine wpAnyH_take (i := 0) (v := .agg #[.int .i64 h, .slice A n c, .slice B m d]) (lit rfl) (by kernel_rfl) (by kernel_rfl) (by kernel_rfl) (fun _ _ _ h => h) (Or.inl ⟨by rfl, ?_⟩) hSd ?_
    · rintro w6 s1
      have a0 := (s1.hp).cell 0
      have a1 := (s1.hp).cell 1
      have a2 := (s1.hp).cell 2
      have b0 := (s1.hw).cell 0
      have b1 := (s1.hw).cell 1
      have b2 := (s1.hw).cell 2
      go_simp
    simp only [Act.put, List.setIfInBounds_toArray, List.set_cons_zero, List.set_cons_succ]
    refine wpAnyH_take (i := 1) (v := .int .i64 q) (lit rfl) (by kernel_rfl) (by kernel_rfl) (by kernel_rfl) (fun _ _ _ h => h) (Or.inl ⟨by rfl, ?_⟩) hSd ?_
    · rintro w6 s1
      go_simp
    simp only [Act.put, List.setIfInBounds_toArray, List.set_cons_zero, List.set_cons_succ]
    refine wpAnyH_take (i := 3) (v := .agg #[.int .i64 h, .slice A n c, .slice B5 m d5]) (lit rfl) (by kernel_rfl) (by kernel_rfl) (by kernel_rfl) (fun _ _ _ h => h) (Or.inl ⟨by rfl, ?_⟩) hSd ?_
    · rintro w6 s1
      have a0 := (s1.hp).cell 0
      have a1 := (s1.hp).cell 1
      have a2 := (s1.hp).cell 2
      have b0 := (s1.hw).cell 0
      have b1 := (s1.hw).cell 1
      have b2 := (s1.hw).cell 2
      go_simp
    simp only [Act.put, List.setIfInBounds_toArray, List.set_cons_zero, List.set_cons_succ]
    refine wpAnyH_take (i := 4) (v := .int .i64 q) (lit rfl) (by kernel_rfl) (by kernel_rfl) (by kernel_rfl) (fun _ _ _ h => h) (Or.inl ⟨by rfl, ?_⟩) hSd ?_
    · rintro w6 s1
      go_simp
    simp only [Act.put, List.setIfInBounds_toArray, List.set_cons_zero, List.set_cons_succ]
    refine wpAnyH_ready (rs := [2]) (by kernel_rfl) (by simp) ?_
    refine AllReadyH.cons (lit rfl) (fun K5 hK5 => ?_) AllReadyH.nil
    refine step_open rfl ?_
    go_simp
    go_at_call 10
    (with_reducible refine (HC1.out _ hSd).mono ?_)
    rintro e11 w11 ⟨rfl, b11⟩
    have h11 : (fun w' : World => Tl13 W wP w5 h A n c B m d B5 d5 p w') w11 := hSd.below b11
    refine hK5.out _ _ h11 (fun _ => ?_)
    clear hK5 K5
    refine wpAnyH_ready (rs := [5]) (by kernel_rfl) (by simp) ?_
    refine AllReadyH.cons (lit rfl) (fun K5 hK5 => ?_) AllReadyH.nil
    refine step_open rfl ?_
    go_simp
    go_at_call 11
    (with_reducible refine (HC2.out _ h11).mono ?_)
    rintro e12 w12 ⟨rfl, b12⟩
    have h12 : (fun w' : World => Tl13 W wP w5 h A n c B m d B5 d5 p w') w12 := h11.below b12
    refine hK5.out _ _ h12 (fun _ => ?_)
    clear hK5 K5
    refine wpAnyH_take (i := 6) (v := .bool true) (lit rfl) (by kernel_rfl) (by kernel_rfl) (by kernel_rfl) (fun _ _ _ h => h) (Or.inl ⟨by rfl, ?_⟩) h12 ?_
    · rintro w6 s1
      go_simp
    simp only [Act.put, List.setIfInBounds_toArray, List.set_cons_zero, List.set_cons_succ]
    refine wpAnyH_take (i := 7) (v := .bool true) (lit rfl) (by kernel_rfl) (by kernel_rfl) (by kernel_rfl) (fun _ _ _ h => h) (Or.inl ⟨by rfl, ?_⟩) h12 ?_
    · rintro w6 s1
      go_simp
    simp only [Act.put, List.setIfInBounds_toArray, List.set_cons_zero, List.set_cons_succ]
    refine wpAnyH_take (i := 8) (v := .agg #[.int .i64 h, .slice A n c, .slice B m d]) (lit rfl) (by kernel_rfl) (by kernel_rfl) (by kernel_rfl) (fun _ _ _ h => h) (Or.inl ⟨by rfl, ?_⟩) h12 ?_
    · rintro w6 s1
      have a0 := (s1.hp).cell 0
      have a1 := (s1.hp).cell 1
      have a2 := (s1.hp).cell 2
      have b0 := (s1.hw).cell 0
      have b1 := (s1.hw).cell 1
      have b2 := (s1.hw).cell 2
      go_simp
    simp only [Act.put, List.setIfInBounds_toArray, List.set_cons_zero, List.set_cons_succ]
    refine wpAnyH_take (i := 9) (v := .int .i64 q) (lit rfl) (by kernel_rfl) (by kernel_rfl) (by kernel_rfl) (fun _ _ _ h => h) (Or.inl ⟨by rfl, ?_⟩) h12 ?_
    · rintro w6 s1
      go_simp
    simp only [Act.put, List.setIfInBounds_toArray, List.set_cons_zero, List.set_cons_succ]
    refine wpAnyH_take (i := 11) (v := .agg #[.int .i64 h, .slice A n c, .slice B5 m d5]) (lit rfl) (by kernel_rfl) (by kernel_rfl) (by kernel_rfl) (fun _ _ _ h => h) (Or.inl ⟨by rfl, ?_⟩) h12 ?_
    · rintro w6 s1
      have a0 := (s1.hp).cell 0
      have a1 := (s1.hp).cell 1
      have a2 := (s1.hp).cell 2
      have b0 := (s1.hw).cell 0
      have b1 := (s1.hw).cell 1
      have b2 := (s1.hw).cell 2
      go_simp
    simp only [Act.put, List.setIfInBounds_toArray, List.set_cons_zero, List.set_cons_succ]
    refine wpAnyH_take (i := 12) (v := .int .i64 q) (lit rfl) (by kernel_rfl) (by kernel_rfl) (by kernel_rfl) (fun _ _ _ h => h) (Or.inl ⟨by rfl, ?_⟩) h12 ?_
    · rintro w6 s1
      go_simp
    simp only [Act.put, List.setIfInBounds_toArray, List.set_cons_zero, List.set_cons_succ]
    refine wpAnyH_ready (rs := [10]) (by kernel_rfl) (by simp) ?_
    refine AllReadyH.cons (lit rfl) (fun K5 hK5 => ?_) AllReadyH.nil
    go_simp
    go_at_call 12
    (with_reducible refine (HR1.out _ h12).mono ?_)
    rintro e13 w13 ⟨rfl, b13⟩
    have h13 : (fun w' : World => Tl13 W wP w5 h A n c B m d B5 d5 p w') w13 := h12.below b13
    refine hK5.out _ _ h13 (fun _ => ?_)
    clear hK5 K5
    refine wpAnyH_ready (rs := [13]) (by kernel_rfl) (by simp) ?_
    refine AllReadyH.cons (lit rfl) (fun K5 hK5 => ?_) AllReadyH.nil
    go_simp
    go_at_call 13
    (with_reducible refine (HR2.out _ h13).mono ?_)
    rintro e14 w14 ⟨rfl, b14⟩
    have h14 : (fun w' : World => Tl13 W wP w5 h A n c B m d B5 d5 p w') w14 := h13.below b14
    refine hK5.out _ _ h14 (fun _ => ?_)
    clear hK5 K5
    refine wpAnyH_take (i := 14) (v := .bool true) (lit rfl) (by kernel_rfl) (by kernel_rfl) (by kernel_rfl) (fun _ _ _ h => h) (Or.inl ⟨by rfl, ?_⟩) h14 ?_
    · rintro w6 s1
      go_simp
    simp only [Act.put, List.setIfInBounds_toArray, List.set_cons_zero, List.set_cons_succ]
    refine wpAnyH_take (i := 15) (v := .bool true) (lit rfl) (by kernel_rfl) (by kernel_rfl) (by kernel_rfl) (fun _ _ _ h => h) (Or.inl ⟨by rfl, ?_⟩) h14 ?_
    · rintro w6 s1
      go_simp
    simp only [Act.put, List.setIfInBounds_toArray, List.set_cons_zero, List.set_cons_succ]
    refine wpAnyH_take (i := 16) (v := .bool true) (lit rfl) (by kernel_rfl) (by kernel_rfl) (by kernel_rfl) (fun _ _ _ h => h) (Or.inl ⟨by rfl, ?_⟩) h14 ?_
    · rintro w6 s1
      go_simp
    simp only [Act.put, List.setIfInBounds_toArray, List.set_cons_zero, List.set_cons_succ]
    refine wpAnyH_take (i := 17) (v := .agg #[.int .i64 h, .slice A n c, .slice B m d]) (lit rfl) (by kernel_rfl) (by kernel_rfl) (by kernel_rfl) (fun _ _ _ h => h) (Or.inl ⟨by rfl, ?_⟩) h14 ?_
    · rintro w6 s1
      have a0 := (s1.hp).cell 0
      have a1 := (s1.hp).cell 1
      have a2 := (s1.hp).cell 2
      have b0 := (s1.hw).cell 0
      have b1 := (s1.hw).cell 1
      have b2 := (s1.hw).cell 2
      go_simp
    simp only [Act.put, List.setIfInBounds_toArray, List.set_cons_zero, List.set_cons_succ]
    refine wpAnyH_take (i := 19) (v := .agg #[.int .i64 h, .slice A n c, .slice B5 m d5]) (lit rfl) (by kernel_rfl) (by kernel_rfl) (by kernel_rfl) (fun _ _ _ h => h) (Or.inl ⟨by rfl, ?_⟩) h14 ?_
    · rintro w6 s1
      have a0 := (s1.hp).cell 0
      have a1 := (s1.hp).cell 1
      have a2 := (s1.hp).cell 2
      have b0 := (s1.hw).cell 0
      have b1 := (s1.hw).cell 1
      have b2 := (s1.hw).cell 2
      go_simp
    simp only [Act.put, List.setIfInBounds_toArray, List.set_cons_zero, List.set_cons_succ]
    refine wpAnyH_ready (rs := [18]) (by kernel_rfl) (by simp) ?_
    refine AllReadyH.cons (lit rfl) (fun K5 hK5 => ?_) AllReadyH.nil
    go_simp
    go_at_call 14
    (with_reducible refine (HW1.out _ h14).mono ?_)
    rintro e15 w15 ⟨rfl, b15⟩
    have h15 : (fun w' : World => Tl13 W wP w5 h A n c B m d B5 d5 p w') w15 := h14.below b15
    refine hK5.out _ _ h15 (fun _ => ?_)
    clear hK5 K5
    refine wpAnyH_ready (rs := [20]) (by kernel_rfl) (by simp) ?_
    refine AllReadyH.cons (lit rfl) (fun K5 hK5 => ?_) AllReadyH.nil
    go_simp
    go_at_call 15
    (with_reducible refine (HW2.out _ h15).mono ?_)
    rintro e16 w16 ⟨rfl, b16⟩
    have h16 : (fun w' : World => Tl13 W wP w5 h A n c B m d B5 d5 p w') w16 := h15.below b16
    refine hK5.out _ _ h16 (fun _ => ?_)
    clear hK5 K5
    refine wpAnyH_take (i := 21) (v := .bool true) (lit rfl) (by kernel_rfl) (by kernel_rfl) (by kernel_rfl) (fun _ _ _ h => h) (Or.inl ⟨by rfl, ?_⟩) h16 ?_
    · rintro w6 s1
      go_simp
    simp only [Act.put, List.setIfInBounds_toArray, List.set_cons_zero, List.set_cons_succ]
    refine wpAnyH_take (i := 22) (v := .bool true) (lit rfl) (by kernel_rfl) (by kernel_rfl) (by kernel_rfl) (fun _ _ _ h => h) (Or.inl ⟨by rfl, ?_⟩) h16 ?_
    · rintro w6 s1
      go_simp
    simp only [Act.put, List.setIfInBounds_toArray, List.set_cons_zero, List.set_cons_succ]
    refine wpAnyH_take (i := 23) (v := .bool true) (lit rfl) (by kernel_rfl) (by kernel_rfl) (by kernel_rfl) (fun _ _ _ h => h) (Or.inl ⟨by rfl, ?_⟩) h16 ?_
    · rintro w6 s1
      go_simp
    simp only [Act.put, List.setIfInBounds_toArray, List.set_cons_zero, List.set_cons_succ]
    refine wpAnyH_take (i := 24) (v := .agg #[.int .i64 h, .slice A n c, .slice B m d]) (lit rfl) (by kernel_rfl) (by kernel_rfl) (by kernel_rfl) (fun _ _ _ h => h) (Or.inl ⟨by rfl, ?_⟩) h16 ?_
    · rintro w6 s1
      have a0 := (s1.hp).cell 0
      have a1 := (s1.hp).cell 1
      have a2 := (s1.hp).cell 2
      have b0 := (s1.hw).cell 0
      have b1 := (s1.hw).cell 1
      have b2 := (s1.hw).cell 2
      go_simp
    simp only [Act.put, List.setIfInBounds_toArray, List.set_cons_zero, List.set_cons_succ]
    refine wpAnyH_take (i := 26) (v := .agg #[.int .i64 h, .slice A n c, .slice B5 m d5]) (lit rfl) (by kernel_rfl) (by kernel_rfl) (by kernel_rfl) (fun _ _ _ h => h) (Or.inl ⟨by rfl, ?_⟩) h16 ?_
    · rintro w6 s1
      have a0 := (s1.hp).cell 0
      have a1 := (s1.hp).cell 1
      have a2 := (s1.hp).cell 2
      have b0 := (s1.hw).cell 0
      have b1 := (s1.hw).cell 1
      have b2 := (s1.hw).cell 2
      go_simp
    simp only [Act.put, List.setIfInBounds_toArray, List.set_cons_zero, List.set_cons_succ]
    refine wpAnyH_ready (rs := [25]) (by kernel_rfl) (by simp) ?_
    refine AllReadyH.cons (lit rfl) (fun K5 hK5 => ?_) AllReadyH.nil
    go_simp
    go_at_call 17
    (with_reducible refine (HL1.out _ h16).mono ?_)
    rintro e17 w17 ⟨A7, n7, c7, rfl, r7, b17⟩
    have h17 : (fun w' : World => Tl13 W wP w5 h A n c B m d B5 d5 p w') w17 := h16.below b17
    refine hK5.out _ _ h17 (fun _ => ?_)
    clear hK5 K5
    refine wpAnyH_ready (rs := [27]) (by kernel_rfl) (by simp) ?_
    refine AllReadyH.cons (lit rfl) (fun K5 hK5 => ?_) AllReadyH.nil
    go_simp
    go_at_call 18
    (with_reducible refine (HL2.out _ h17).mono ?_)
    rintro e18 w18 ⟨A8, n8, c8, rfl, r8, b18⟩
    have h18 : (fun w' : World => Tl13 W wP w5 h A n c B m d B5 d5 p w') w18 := h17.below b18
    have r7b := r7.below b18
    obtain rfl : n8 = n7 := by rw [r8.len, r7.len]
    refine hK5.out _ _ h18 (fun _ => ?_)
    clear hK5 K5
    refine wpAnyH_ready (rs := [28]) (by kernel_rfl) (by simp) ?_
    refine AllReadyH.cons (lit rfl) (fun K5 hK5 => ?_) AllReadyH.nil
    go_simp
    go_at_call 16
    (with_reducible refine (HIN.out _ _ _ _ _ _ r7b r8).mono ?_)
    rintro e19 w19 ⟨rfl, b19⟩
    have h19 : (fun w' : World => Tl13 W wP w5 h A n c B m d B5 d5 p w') w19 := h18.below b19
    refine hK5.out _ _ h19 (fun _ => ?_)
    clear hK5 K5
    refine wpAnyH_take (i := 29) (v := .bool true) (lit rfl) (by kernel_rfl) (by kernel_rfl) (by kernel_rfl) (fun _ _ _ h => h) (Or.inl ⟨by rfl, ?_⟩) h19 ?_
    · rintro w6 s1
      go_simp
    simp only [Act.put, List.setIfInBounds_toArray, List.set_cons_zero, List.set_cons_succ]
    refine wpAnyH_take (i := 30) (v := .bool true) (lit rfl) (by kernel_rfl) (by kernel_rfl) (by kernel_rfl) (fun _ _ _ h => h) (Or.inl ⟨by rfl, ?_⟩) h19 ?_
    · rintro w6 s1
      go_simp
    simp only [Act.put, List.setIfInBounds_toArray, List.set_cons_zero, List.set_cons_succ]
    refine wpAnyH_done (by kernel_rfl) ?_ _
    refine hK _ _ ?_
    go_wp2
    go_ret
    exact ⟨rfl, h19.bel⟩
end Go.Proofs.Ytoelojlabmconaa
end
