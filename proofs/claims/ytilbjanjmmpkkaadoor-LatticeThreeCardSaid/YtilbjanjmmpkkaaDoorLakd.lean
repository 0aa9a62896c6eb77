/- Package lattice: each, where the round knows of its number: contract, no statement. -/
import Derived.Test.YtilbjanjmmpkkaaDoorLakn
namespace Go.Proofs.YtilbjanjmmpkkaaDoor
open Go.RowKit Go.Shelf
set_option linter.unusedVariables false
attribute [local go_sem] Oper.semAt_some

set_option maxRecDepth 100000 in
set_option maxHeartbeats 1000000 in
theorem each1_inR (F : Fence) (n : Nat) (hF : F.fn 56) (hT52 : F.fn 57) (hro : F.round = none) (hw : F = Fence.wide) (hn : 1 ≤ n) (l Bx n₀ x : Nat) (hx : x < 2 ^ 64) (R : Nat → Prop) (hR : ∀ k ∈ listN x, R k) (J Jx : List {k : Nat // R k} → World → Prop)
    (hY : ∀ (pre : List {k : Nat // R k}) (k : {k : Nat // R k}) (W : World), J pre W → pre.length < 64 → YieldAt F (n - 1) Tryd.prog l #[.int .i64 (k.1 : Int)] W fun e W' =>
      (e = .returned (.bool true) ∧ J (pre ++ [k]) W' ∧ Below n₀ W W') ∨ (e = .returned (.bool false) ∧ Jx (pre ++ [k]) W'))
    (W : World) (hBx : W.cell? ⟨Bx, 0, none⟩ = some (.int .u64 x)) (hTab : TabAt 0 Lib.deBruijn64tab W) (h0n : 0 < n₀) (h0 : J [] W) :
    CallsIn F n Tryd.prog 56 #[.func (.yield l) #[] #[], .pointer (some ⟨Bx, 0, none⟩)] W fun e W' => (∃ v, e = .returned v) ∧
      ((∃ ys : List {k : Nat // R k}, ys.map (·.1) = listN x ∧ J ys W') ∨ (∃ pre : List {k : Nat // R k}, pre.map (·.1) <+: listN x ∧ Jx pre W')) := by
  refine callsIn_of_wp Tryd.func56 rfl hF ?_ hro
  simp only [Tryd.ntmps56, List.size_toArray, List.length_cons, List.length_nil, Nat.reduceAdd, Nat.reduceSub, Array.replicate_succ, Array.replicate_zero, List.push_toArray, List.append_toArray, List.nil_append, List.cons_append]
  subst hw
  gi_wp2
  gi_loopw [3] (fun v wr => ∃ (pre : List {k : Nat // R k}) (y : Nat), v = .int .u64 y ∧ y < 2 ^ 64 ∧ listN x = pre.map (·.1) ++ listN y ∧ J pre wr ∧ TabAt 0 Lib.deBruijn64tab wr) (fun v _ => (intOf v).toNat)
  case atStart => exact ⟨[], x, rfl, hx, rfl, h0, hTab⟩
  case round =>
    obtain ⟨pre, y, rfl, hy64, hl, hJ, hTw⟩ := hrel
    by_cases hy0 : y = 0
    · have HL := Lib.hid hl
      subst hy0
      clear hl
      gi_wp2
      go_end0
      exact ⟨⟨_, rfl⟩, .inl ⟨pre, by rw [HL.out, listN_zero, List.append_nil], hJ⟩⟩
    · obtain ⟨hs, hk, hy2⟩ := listN_step y hy0 hy64
      have hlen : pre.length < 64 := by
        have h1 : (listN x).length ≤ 64 := by
          unfold listN
          have := List.length_filter_le (fun k => x.testBit k) (List.range 64)
          simpa using this
        rw [hl, hs] at h1
        simp at h1
        omega
      have hRk : R (Lib.ctz 64 y) := hR _ (by rw [hl, hs]; simp)
      have HTZ := Lib.hid (fun w1 (h : TabAt 0 Lib.deBruijn64tab w1) => tz_any y hy64 hy0 w1 h)
      have HL := Lib.hid hl
      have HS := Lib.hid hs
      have HT := Lib.hid hTw
      have hyn : ((y : Int) != 0) = true := by simp; omega
      have HDec : Hid (y &&& (y - 1) < y) := Lib.hid (by
        have : y &&& (y - 1) ≤ y - 1 := Nat.and_le_right
        omega)
      have HAnd : Hid (bits .and .u64 (y : Int) ((y : Int) - 1) = ((y &&& (y - 1) : Nat) : Int)) := Lib.hid (by
        have := u64_and_nat y (y - 1) (by omega) (by omega)
        rw [← this]
        congr 1
        omega)
      generalize Lib.ctz 64 y = k at HTZ HS hk hRk
      generalize y &&& (y - 1) = y2 at HS HDec HAnd hy2
      have hYk : YieldAt Fence.wide (n - 1) Tryd.prog l #[.int .i64 (k : Int)] wr fun e W' =>
        (e = .returned (.bool true) ∧ J (pre ++ [⟨k, hRk⟩]) W' ∧ Below n₀ wr W') ∨ (e = .returned (.bool false) ∧ Jx (pre ++ [⟨k, hRk⟩]) W') := hY pre ⟨k, hRk⟩ wr hJ hlen
      obtain ⟨fn, tmps, assign, body, hyy, hRR⟩ := hYk
      clear hl hs hTw hlen
      gi_wp2_with (gi_at_call 57; refine (callsIn_wide.2 (HTZ.out _ HT.out)).mono ?_; rintro e w' ⟨rfl, rfl⟩)
      refine hRR.mono ?_
      rintro e W3 (⟨rfl, hJ3, hk3⟩ | ⟨rfl, hJx3⟩)
      · have hT3 : TabAt 0 Lib.deBruijn64tab W3 := fun j hj => (hk3.cell (p := ⟨0, j, none⟩) h0n).trans (HT.out j hj)
        have HT3 := Lib.hid hT3
        clear hT3
        gi_wp2
        go_roundw
        case rel => exact ⟨pre ++ [⟨k, hRk⟩], y2, u64_eq' HAnd.out, hy2, by rw [HL.out, HS.out]; simp, hJ3, HT3.out⟩
        case measure =>
          have hd := HDec.out
          rw [HAnd.out]
          simp [intOf]
          omega
      · gi_wp2
        refine bodyPost_ret (results_none rfl _ _ _) rfl ?_
        exact ⟨⟨_, rfl⟩, .inr ⟨pre ++ [⟨k, hRk⟩], ⟨listN y2, by rw [HL.out, HS.out]; simp⟩, hJx3⟩⟩

theorem each_stopsR (n : Nat) (hn : 1 ≤ n) (Bx n₀ x : Nat) (hx : x < 2 ^ 64) (R : Nat → Prop) (hR : ∀ k ∈ listN x, R k) (w : World) (hBx : Bx < w.heap.size) (hn₀ : n₀ ≤ w.heap.size) (h0n : 0 < n₀) (hc : w.cell? ⟨Bx, 0, none⟩ = some (.int .u64 x)) (hT : TabAt 0 Lib.deBruijn64tab w) :
    SeqStopsK Fence.wide n Tryd.prog 56 #[.pointer (some ⟨Bx, 0, none⟩)] (fun k : {k : Nat // R k} => #[Value.int .i64 (k.1 : Int)]) (Below n₀) (fun ys => ys.map (·.1) = listN x) (fun pre => pre.map (·.1) <+: listN x) 64 w := fun l J Jx W hW _ _ hY h0 =>
  each1_inR Fence.wide n trivial trivial rfl rfl hn l Bx n₀ x hx R hR J Jx hY W ((hW.cell (p := ⟨Bx, 0, none⟩) hBx).trans hc) (fun j hj => (hW.cell (p := ⟨0, j, none⟩) (show 0 < w.heap.size by omega)).trans (hT j hj)) h0n h0

/-! A function that leaves with marks. -/
def marksD (ds : List Nat) : List Deferred := ds.map fun D => { target := .collected D, args := #[] }
def Marks (ds : List Nat) (W : World) : Prop := ds.Nodup ∧ ∀ D ∈ ds, W.heap[D]? = some (.deferred (some []))
theorem Marks.below {ds : List Nat} {W W' : World} (h : Marks ds W) (hb : Below W.heap.size W W') : Marks ds W' :=
  ⟨h.1, fun D hD => (hb.block D (Array.getElem?_eq_some_iff.1 (h.2 D hD)).1).trans (h.2 D hD)⟩
theorem leavesM_marks {F : Fence} {n : Nat} {P : Program} {fn : Func} {tmps : Array Value} {R : Ending → World → Prop} (Z : World → Prop) : ∀ (ds : List Nat) (W : World), Marks ds W → Z W →
    (∀ D ∈ ds, ∀ W, Z W → W.heap[D]? = some (.deferred (some [])) → Z (W.putObj D (.deferred none))) →
    (∀ W, Z W → LeavesIn F n P fn tmps R [] .returning W) → LeavesInM F n P fn tmps R (marksD ds) .returning W := by
  intro ds
  induction ds with
  | nil => exact fun W _ hZ _ he => he W hZ
  | cons D ds ih =>
    intro W hm hZ hs he
    have hD := hm.2 D (by simp)
    refine ⟨by simp, .inl ⟨D, _, rfl, run_takeDeferred hD, ?_⟩⟩
    refine ih _ ⟨(List.nodup_cons.1 hm.1).2, fun D' hD' => ?_⟩ (hs D (by simp) W hZ hD) (fun D' hD' => hs D' (by simp [hD'])) he
    rw [World.putObj_heap_other (by rintro rfl; exact (List.nodup_cons.1 hm.1).1 hD')]
    exact hm.2 D' (by simp [hD'])

end Go.Proofs.YtilbjanjmmpkkaaDoor
