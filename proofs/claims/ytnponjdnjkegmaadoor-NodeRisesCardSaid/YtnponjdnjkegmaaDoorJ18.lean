import Derived.Test.YtnponjdnjkegmaaDoorJNey
import Derived.Test.YtnponjdnjkegmaaDoorJ02
import Derived.Test.YtnponjdnjkegmaaDoorJ04
import Derived.Deep.Slices
import Derived.SliceStrings
/- Of a claim's texts, joined: Nez NoSizes Argn. No statement but in the last. -/
section
namespace Go.Proofs.YtnponjdnjkegmaaDoor
open Go.RowKit
set_option linter.unusedVariables false

def exL : List En := [⟨[107], [118], false, 0, 0⟩]
def exB : List En := [⟨[], [], false, 0, 2⟩, ⟨[109], [], false, 0, 3⟩]
theorem exL_ok : checkN true exL := by decide
theorem exB_ok : checkN false exB := by decide
theorem nil_no (leaf : Bool) : ¬ checkN leaf [] := by cases leaf <;> decide
theorem exL_cells : cellsE true exL = [[1, 107, 0, 118]] := by decide
theorem exL_few : FewN exL := ⟨by decide, by decide⟩
theorem exB_few : FewN exB := ⟨by decide, by decide⟩
theorem nil_few : FewN [] := ⟨by decide, fun e h => by cases h⟩
theorem getN_exB : getN (cPage 2 (cellsE false exB)) = (false, exB, 0) := by
  have h := getN_page (leaf := false) (l := exB) exB_ok
  rw [show kindN false = 2 from rfl] at h
  exact h
theorem exL_strs : ∀ e ∈ exL, e.k.length ≤ maxLen ∧ e.d.length ≤ maxLen := fun e he => by
  have := exL_few.2 e he
  unfold maxLen
  omega
theorem exB_strs : ∀ e ∈ exB, e.k.length ≤ maxLen ∧ e.d.length ≤ maxLen := fun e he => by
  have := exB_few.2 e he
  unfold maxLen
  omega
theorem lq_one8 {q : List Hd} {n : Nat} {l : List UInt8} (hn : n = q.length) (h : lq q = [l]) : ∃ y, q = [y] ∧ n = 1 ∧ y.l = l := by
  rcases q with _ | ⟨y, _ | ⟨z, q⟩⟩
  · cases h
  · injection h with h _
    exact ⟨y, rfl, hn, h⟩
  · injection h with _ h
    cases h
theorem nodA_made (w : World) (l : List En) (n : Nat) (hn : n = l.length) (h0 : n ≤ 1000) (cs : Array Value) (hc : cs = (cellsN l).toArray) (hs : ∀ e ∈ l, e.k.length ≤ maxLen ∧ e.d.length ≤ maxLen) {W : World} (hW : w.alloc (.cells cs 54) = W) : NodA W (some ⟨w.heap.size, 0, none⟩) n n l := by
  subst hc hW
  refine ⟨hn, fun _ => ⟨w.heap.size, 0, rfl, fun j u hj => ?_⟩, Nat.le_refl _, by unfold maxLen; omega, hs⟩
  rw [(Has.made w 54 (cellsN l).toArray).cell, Nat.zero_add]
  simpa using hj

set_option maxRecDepth 100000 in
set_option maxHeartbeats 8000000 in
theorem awake08_any (w : World) (ht : Tab w) : Calls Tryd.prog 8 #[] w (fun e w' => e = .returned (.bool true) ∧ Below w.heap.size w w') := by
  have HT := Lib.hid ht
  have hzv : ∀ w, (zeroValue 52).run Tryd.prog w = .ok (.agg #[.string ⟨#[]⟩, .bool false, .int .i64 0, .int .i64 0]) w := zero_val
  have hze := zero_entry
  have hzn := zero_node
  clear ht
  obtain ⟨V, hV⟩ : ∃ V, w.alloc (.cells #[.string ⟨#[107]⟩, .string ⟨#[118]⟩, .bool false, .int .i64 0, .int .i64 0] 54) = V := ⟨_, rfl⟩
  have hA : NodA V (some ⟨w.heap.size, 0, none⟩) 1 1 exL := nodA_made w exL 1 rfl (by decide) _ rfl exL_strs hV
  have hVs : V.heap.size = w.heap.size + 1 := by rw [← hV]; simp
  obtain ⟨W, hW⟩ : ∃ W, V.alloc (.cells #[.bool true, .slice (some ⟨w.heap.size, 0, none⟩) 1 1] 24) = W := ⟨_, rfl⟩
  have BV : Below w.heap.size w V := hV ▸ (Below.refl _ w).alloc (Nat.le_refl _) _
  have BW : Below V.heap.size V W := hW ▸ (Below.refl _ V).alloc (Nat.le_refl _) _
  have HA := Lib.hid (hA.below BW)
  have HX : Hid (Has W (w.heap.size + 1) 24 #[.bool true, .slice (some ⟨w.heap.size, 0, none⟩) 1 1]) := Lib.hid (by rw [← hVs]; exact hW ▸ Has.made V _ _)
  have HB := Lib.hid (below_step BV BW)
  have HWV : Hid ((w.alloc (.cells #[.string ⟨#[107]⟩, .string ⟨#[118]⟩, .bool false, .int .i64 0, .int .i64 0] 54)).alloc (.cells #[.bool true, .slice (some ⟨w.heap.size, 0, none⟩) 1 1] 24) = W) := Lib.hid (by rw [hV, hW])
  have e0 := HX.out.cell 0
  have e1 := HX.out.cell 1
  have HC : Hid (Calls Tryd.prog 15 #[.agg #[.bool true, .slice (some ⟨w.heap.size, 0, none⟩) 1 1]] W (CutEnd W [[1, 107, 0, 118]])) := Lib.hid (by
    have := nCells_any true _ 1 1 exL W HA.out (by decide) exL_few.wide
    rw [exL_cells] at this
    exact this)
  have HP : Hid (∀ B w1, Tab w1 → NodA w1 (some ⟨B, 0, none⟩) 2 2 exB → Calls Tryd.prog 11 #[.agg #[.bool false, .slice (some ⟨B, 0, none⟩) 2 2]] w1 (PackOk 2 (cellsE false exB) w1)) := Lib.hid (fun B w1 ht h => nPut_yes false _ 2 2 exB w1 ht h exB_few exB_ok)
  have HPL := Lib.hid (cPage_len 2 (cellsE false exB) exB_ok.2)
  have HG : Hid (∀ A c w1, Tab w1 → Arg w1 A 128 c (cPage 2 (cellsE false exB)) → Calls Tryd.prog 20 #[.slice A 128 c] w1 (GetN (false, exB, 0) w1)) := Lib.hid (fun A c w1 ht h => by
    have := nGet_any A 128 c (cPage 2 (cellsE false exB)) w1 ht h
    rw [getN_exB] at this
    exact this)
  have HK : Hid (∀ w1, Below W.heap.size W w1 → Calls Tryd.prog 17 #[.agg #[.bool true, .slice (some ⟨w.heap.size, 0, none⟩) 1 1]] w1 fun e w' => e = .returned (.bool true) ∧ Below w1.heap.size w1 w') := Lib.hid (fun w1 hb => by
    have := nCheck_any true _ 1 1 exL w1 (HA.out.below hb) exL_few
    rw [decide_eq_true exL_ok] at this
    exact this)
  have HK1 : Hid (∀ w1, Calls Tryd.prog 17 #[.agg #[.bool true, .slice none 0 0]] w1 fun e w' => e = .returned (.bool false) ∧ Below w1.heap.size w1 w') := Lib.hid (fun w1 => by
    have := nCheck_any true none 0 0 [] w1 (NodA.none_ _) nil_few
    rw [decide_eq_false (nil_no true)] at this
    exact this)
  have HK2 : Hid (∀ w1, Calls Tryd.prog 17 #[.agg #[.bool false, .slice none 0 0]] w1 fun e w' => e = .returned (.bool false) ∧ Below w1.heap.size w1 w') := Lib.hid (fun w1 => by
    have := nCheck_any false none 0 0 [] w1 (NodA.none_ _) nil_few
    rw [decide_eq_false (nil_no false)] at this
    exact this)
  have HEB : Hid ((cellsN exB).toArray = #[.string ⟨#[]⟩, .string ⟨#[]⟩, .bool false, .int .i64 0, .int .i64 2, .string ⟨#[109]⟩, .string ⟨#[]⟩, .bool false, .int .i64 0, .int .i64 3]) := Lib.hid rfl
  clear hA hVs BV BW hV hW
  go_enter Tryd.func8, Tryd.ntmps8
  go_wp2_with (first
    | (go_at_call 15; (try rw [HWV.out]); (with_reducible refine HC.out.mono ?_); rintro e w1 ⟨A1, n1, c1, q1, rfl, k1, l1, b1⟩; obtain ⟨y, rfl, rfl, hy⟩ := lq_one8 k1.len l1; obtain ⟨V1, hV1⟩ : ∃ V1, w1.alloc (.cells #[.string ⟨#[]⟩, .string ⟨#[]⟩, .bool false, .int .i64 0, .int .i64 2, .string ⟨#[109]⟩, .string ⟨#[]⟩, .bool false, .int .i64 0, .int .i64 3] 54) = V1 := ⟨_, rfl⟩; have D1 := Lib.hid (nodA_made w1 exB 2 rfl (by decide) _ HEB.out.symm exB_strs hV1); have BV1 : Below w1.heap.size w1 V1 := hV1 ▸ (Below.refl _ w1).alloc (Nat.le_refl _) _; have K1 := Lib.hid (k1.below BV1); have B1 := Lib.hid (below_step b1 BV1); have HV1 := Lib.hid hV1; clear k1 l1 b1 BV1 hV1)
    | (go_at_call 11; (try rw [HV1.out]); (with_reducible refine (HP.out _ _ (HT.out.below (below_step HB.out B1.out)) D1.out).mono ?_); rintro e w2 ⟨A2, c2, rfl, g1, g2, r2, b2⟩; have R2 := Lib.hid (Arg.of_row r2 HPL.out.symm (by decide) g1 g2); have K2 := Lib.hid (K1.out.below b2); have B2 := Lib.hid (below_step B1.out b2); clear r2 b2)
    | (go_at_call 20; (with_reducible refine (HG.out _ _ _ (HT.out.below (below_step HB.out B2.out)) R2.out).mono ?_); rintro e w3 ⟨A3, n3, c3, rfl, d3, b3⟩; have hn3 : n3 = 2 := d3.len; subst hn3; obtain ⟨V3, hV3⟩ : ∃ V3, w3.alloc (.cells #[.bool false, .slice A3 2 c3] 24) = V3 := ⟨_, rfl⟩; have BV3 : Below w3.heap.size w3 V3 := hV3 ▸ (Below.refl _ w3).alloc (Nat.le_refl _) _; have X3 : Has V3 w3.heap.size 24 #[.bool false, .slice A3 2 c3] := hV3 ▸ Has.made w3 _ _; have x0 := X3.cell 0; have x1 := X3.cell 1; have D3 := d3.below BV3; obtain ⟨g3, o3, rfl, _, _, _, _, p4⟩ := D3.reads.eat (i := 1) (by decide); have K3 := K2.out.below (below_step b3 BV3); obtain ⟨g4, o4, rfl, p5⟩ := K3.at (k := 0) (by simp); have hy3 := K3.each y (by simp); have hst := run_string_of (P := Tryd.prog) V3 31 9 5 Tryd.underlying31 Tryd.underlying5 Tryd.underlying9 (cap := y.c) hy3.len hy3.reads; rw [hy] at hst; have p5 : V3.cell? ⟨g4, o4, none⟩ = some (.slice y.a y.n y.c) := p5; have p4 : V3.cell? ⟨g3, o3 + 5 + 4, none⟩ = some (.int .i64 3) := p4; have B3 := Lib.hid (below_step B2.out (below_step b3 BV3)); have z0 := (HX.out.below (below_step B2.out (below_step b3 BV3)) HX.out.lt).cell 0; have z1 := (HX.out.below (below_step B2.out (below_step b3 BV3)) HX.out.lt).cell 1; have c3r := d3.room; clear b3 d3 D3 K3 hy3 BV3 X3; subst hV3)
    | (go_at_call 17; (with_reducible refine (HK.out _ B3.out).mono ?_); rintro e w4 ⟨rfl, b4⟩; have B4 := Lib.hid (below_step B3.out b4); clear b4)
    | (go_at_call 17; (with_reducible refine (HK1.out _).mono ?_); rintro e w5 ⟨rfl, b5⟩; have B5 := Lib.hid (below_step B4.out b5); clear b5)
    | (go_at_call 17; (with_reducible refine (HK2.out _).mono ?_); rintro e w6 ⟨rfl, b6⟩; have B6 := Lib.hid (below_step B5.out b6); clear b6))
  go_ret
  exact ⟨rfl, below_step HB.out B6.out⟩

end Go.Proofs.YtnponjdnjkegmaaDoor
end

section
namespace Go.Proofs.YtnponjdnjkegmaaDoor
open Go.RowKit
set_option linter.unusedVariables false

theorem small_fewN {l : List En} (h : smallN l = true) : FewN l := by
  have := of_decide_eq_true h
  exact ⟨by omega, fun e he => by have := this.2 e he; omega⟩
theorem small_le {l : List En} (h : smallN l = true) : l.length ≤ 40 := (of_decide_eq_true h).1
theorem box_law (w : World) (leaf : Bool) (A : Option Addr) (n c : Nat) : ∃ W, w.alloc (.cells #[.bool leaf, .slice A n c] 24) = W ∧ Below w.heap.size w W ∧ Has W w.heap.size 24 #[.bool leaf, .slice A n c] := ⟨_, rfl, (Below.refl _ w).alloc (Nat.le_refl _) _, Has.made w _ _⟩
theorem walkNoSizes_no (leaf : Bool) (A : Option Addr) (n c : Nat) (l : List En) (w : World) (ht : Tab w) (h : NodA w A n c l) (hs : smallN l = false) :
    Calls Tryd.prog 6 #[.agg #[.bool leaf, .slice A n c]] w fun e w' => e = .returned (.bool true) ∧ Below w.heap.size w w' := by
  obtain ⟨W, hW, hb, hx⟩ := box_law w leaf A n c
  have HAW := Lib.hid (awake08_any W (ht.below hb))
  have HSM := Lib.hid (fun w1 (hb1 : Below w.heap.size w w1) => small08_any leaf A n c l w1 (h.below hb1))
  rw [hs] at HSM
  have HB := Lib.hid hb
  have HX := Lib.hid hx
  clear ht h hs hb hx
  go_enter Tryd.func6, Tryd.ntmps6
  go_wp2_with (first
    | (go_at_call 8; (try rw [hW]); (with_reducible refine HAW.out.mono ?_); rintro e w0 ⟨rfl, h0⟩; have X0 := HX.out.below h0 HX.out.lt; have x0 := X0.cell 0; have x1 := X0.cell 1; have B0 := Lib.hid (below_step HB.out h0); clear h0 X0)
    | (go_at_call 9; (with_reducible refine (HSM.out _ B0.out).mono ?_); rintro e w1 ⟨rfl, h1⟩; have B1 := Lib.hid (below_step B0.out h1); clear h1))
  go_ret
  exact ⟨rfl, B1.out⟩
set_option maxRecDepth 100000 in
set_option maxHeartbeats 8000000 in
theorem walkNoSizes_yes (leaf : Bool) (A : Option Addr) (n c : Nat) (l : List En) (w : World) (ht : Tab w) (h : NodA w A n c l) (hs : smallN l = true) :
    Calls Tryd.prog 6 #[.agg #[.bool leaf, .slice A n c]] w fun e w' => e = .returned (.bool true) ∧ Below w.heap.size w w' := by
  obtain ⟨W, hW, hb, hx⟩ := box_law w leaf A n c
  have hzv : ∀ w, (zeroValue 52).run Tryd.prog w = .ok (.agg #[.string ⟨#[]⟩, .bool false, .int .i64 0, .int .i64 0]) w := zero_val
  have hf := small_fewN hs
  have HL := Lib.hid h.len
  have HF := Lib.hid hf
  have hn : n ≤ 40 := by rw [h.len]; exact small_le hs
  have HAW := Lib.hid (awake08_any W (ht.below hb))
  have HSM := Lib.hid (fun w1 (hb1 : Below w.heap.size w w1) => small08_any leaf A n c l w1 (h.below hb1))
  rw [hs] at HSM
  have HCE := Lib.hid (fun w1 (hb1 : Below w.heap.size w w1) => nCells_any leaf A n c l w1 (h.below hb1) (by omega) hf.wide)
  have HA := Lib.hid h
  have HB := Lib.hid hb
  have HX := Lib.hid hx
  clear ht h hs hb hx hf
  go_enter Tryd.func6, Tryd.ntmps6
  go_wp2_with (first
    | (go_at_call 8; (try rw [hW]); (with_reducible refine HAW.out.mono ?_); rintro e w0 ⟨rfl, h0⟩; have X0 := HX.out.below h0 HX.out.lt; have x0 := X0.cell 0; have x1 := X0.cell 1; have X0 := Lib.hid X0; have B0 := Lib.hid (below_step HB.out h0); clear h0)
    | (go_at_call 9; (with_reducible refine (HSM.out _ B0.out).mono ?_); rintro e w1 ⟨rfl, h1⟩; have X1 := X0.out.below h1 X0.out.lt; have y0 := X1.cell 0; have y1 := X1.cell 1; have X1 := Lib.hid X1; have B1 := Lib.hid (below_step B0.out h1); clear h1)
    | (go_at_call 15; (with_reducible refine (HCE.out _ B1.out).mono ?_); rintro e w2 ⟨A2, n2, c2, q, rfl, k2, l2, h2⟩; have hn2 : n2 = n := (by rw [k2.len, HL.out, ← lq_len, l2, cellsE, List.length_map]); subst hn2; have X2 := X1.out.below h2 X1.out.lt; have z0 := X2.cell 0; have z1 := X2.cell 1; have X2 := Lib.hid X2; have K2 := Lib.hid k2; have L2 := Lib.hid l2; have B2 := Lib.hid (below_step B1.out h2); clear h2 k2 l2))
  go_loopw [6] (fun i wr => ∃ k : Nat, k ≤ n2 ∧ i = .int .i64 k ∧ Below w2.heap.size w2 wr) (fun i _ => n2 - (intOf i).toNat)
  case atStart => exact ⟨0, Nat.zero_le _, rfl, Below.refl _ _⟩
  case round =>
    obtain ⟨k, hk, rfl, hB⟩ := hrel
    have BW := Lib.hid hB
    have X3 := X2.out.below hB X2.out.lt
    have f0 := X3.cell 0
    have f1 := X3.cell 1
    have X3 := Lib.hid X3
    clear hB
    by_cases hlt : k < n2
    · have hkl : k < l.length := by rw [← HL.out]; exact hlt
      have hkq : k < q.length := by rw [← K2.out.len]; exact hlt
      obtain ⟨g, off, rfl, c0, c1, c2, c3, c4⟩ := (HA.out.below (below_step B2.out BW.out)).reads.eat hkl
      obtain ⟨g2, o2, rfl, d0⟩ := (K2.out.below BW.out).at hkq
      have hlen : (q[k]).n = (cellE leaf l[k]).length := by
        rw [(K2.out.hdr hkq).len]
        have h1 := lq_at q hkq
        rw [L2.out, cellsE, List.getElem?_map, List.getElem?_eq_getElem hkl] at h1
        injection h1 with h1
        rw [← h1]
      rw [cellE_len] at hlen
      have hkn := HF.out.2 _ (List.getElem_mem hkl)
      have i0 : (0 : Int) ≤ (k : Int) := by omega
      have i1 : (k : Int) < (n2 : Int) := by omega
      generalize q[k] = x at *
      generalize l[k] = y at *
      obtain ⟨yk, yd, far, sz, pg⟩ := y
      simp only at hlen hkn
      simp only [cstV] at c0 c1 c2 c3 c4
      have s0 : (⟨yk.toArray⟩ : ByteArray).size = yk.length := size_list yk
      have s1 : (⟨yd.toArray⟩ : ByteArray).size = yd.length := size_list yd
      generalize (⟨yd.toArray⟩ : ByteArray) = sd at *
      generalize (⟨yk.toArray⟩ : ByteArray) = sk at *
      rw [← s0, ← s1] at hlen
      have hk3 : sk.size ≤ 3000 := by omega
      have hd3 : sd.size ≤ 300 := by omega
      obtain ⟨m, hm⟩ : ∃ m, min sk.size 255 = m := ⟨_, rfl⟩
      rw [hm] at hlen
      have hm2 : m ≤ 255 := by omega
      obtain ⟨V, hV⟩ : ∃ V, wr.alloc (.cells #[.string sd, .bool far, .int .i64 sz, .int .i64 pg] 52) = V := ⟨_, rfl⟩
      have BV : Below wr.heap.size wr V := hV ▸ (Below.refl _ wr).alloc (Nat.le_refl _) _
      have HV : Has V wr.heap.size 52 #[.string sd, .bool far, .int .i64 sz, .int .i64 pg] := hV ▸ Has.made wr _ _
      have v0 := HV.cell 0
      have v1 := HV.cell 1
      have v2 := HV.cell 2
      have v3 := HV.cell 3
      have p0 := cell_below c0 BV
      have p1 := cell_below d0 BV
      have p2 := cell_below f0 BV
      have p3 := cell_below f1 BV
      have BT := Lib.hid (below_step BW.out BV)
      clear BV HV s0 s1 hkn hkl hkq
      obtain ⟨xa, xn, xc, xl⟩ := x
      simp only at p1 hlen d0
      cases leaf
      · have hne : (((xn : Nat) : Int) != (m : Int) + 3) = false := by simp at hlen ⊢; omega
        clear hlen
        go_wp2
        go_roundw
        case rel => exact ⟨k + 1, by omega, by go_num, BT.out⟩
        case measure => simp [intOf]; omega
      · cases far
        · have hne : (((xn : Nat) : Int) != (m : Int) + (2 + (sd.size : Int))) = false := by simp at hlen ⊢; omega
          clear hlen
          go_wp2
          go_roundw
          case rel => exact ⟨k + 1, by omega, by go_num, BT.out⟩
          case measure => simp [intOf]; omega
        · have hne : (((xn : Nat) : Int) != (m : Int) + 6) = false := by simp at hlen ⊢; omega
          clear hlen
          go_wp2
          go_roundw
          case rel => exact ⟨k + 1, by omega, by go_num, BT.out⟩
          case measure => simp [intOf]; omega
    · obtain rfl : k = n2 := by omega
      go_wp2
      go_ret
      exact ⟨rfl, below_step B2.out BW.out⟩
theorem walkNoSizes (leaf : Bool) (A : Option Addr) (n c : Nat) (l : List En) (w : World) (ht : Tab w) (h : NodA w A n c l) :
    Calls Tryd.prog 6 #[.agg #[.bool leaf, .slice A n c]] w fun e w' => e = .returned (.bool true) ∧ Below w.heap.size w w' := by
  cases hs : smallN l
  · exact walkNoSizes_no leaf A n c l w ht h hs
  · exact walkNoSizes_yes leaf A n c l w ht h hs

end Go.Proofs.YtnponjdnjkegmaaDoor
end

section
namespace Go.Proofs.YtnponjdnjkegmaaDoor
open Go.ChangeShapes Go.WideShapes Go.ChangeAt Go.RowKit Go.Deep
set_option linter.unusedVariables false

instance : Inhabited En := ⟨en0⟩
theorem cst_of (s : ByteArray) : Value.string s = cstV s.data.toList := by
  unfold cstV
  simp
set_option maxRecDepth 100000 in
set_option maxHeartbeats 1000000 in
theorem arg_entries {H : Type} {enc : TypeId × Value → H} {W : World} {fuel : Nat} {v : Value} {x : DataW H × List MemPlace} (h : DataW.trod enc Tryd.prog W 0 (fun _ => true) true fuel 22 [v] = some x) :
    ∃ (A : Option Addr) (n c : Nat) (l : List En), v = .slice A n c ∧ NodA W A n c l := by
  rcases open_slice Tryd.underlying22 h with ⟨hcs, _⟩ | ⟨x, n, c, m, fu, D, Pl, hcs, _, hl, hm, hmm, _, hx⟩
  · simp at hcs
    exact ⟨none, 0, 0, [], hcs, NodA.none_ W⟩
  · simp at hcs
    have hmn : n ≤ m := by rw [hmm]; split <;> omega
    have ce : Tryd.prog.cellsOf 54 = 5 := by kernel_rfl
    have cv : Tryd.prog.cellsOf 52 = 4 := by kernel_rfl
    have c1 : Tryd.prog.cellsOf 3 = 1 := by kernel_rfl
    have c2 : Tryd.prog.cellsOf 9 = 1 := by kernel_rfl
    have c3 : Tryd.prog.cellsOf 4 = 1 := by kernel_rfl
    have each : ∀ i, i < n → ∃ q : En, W.cell? (x.add (i * 5)) = some (cstV q.k) ∧ W.cell? (x.add (i * 5 + 1)) = some (cstV q.d) ∧ W.cell? (x.add (i * 5 + 2)) = some (.bool q.far) ∧ W.cell? (x.add (i * 5 + 3)) = some (.int .i64 q.sz) ∧ W.cell? (x.add (i * 5 + 4)) = some (.int .i64 q.pg) ∧ q.k.length ≤ maxLen ∧ q.d.length ≤ maxLen := fun i hin => by
      obtain ⟨cs', h1, h2⟩ := hx i (by omega)
      rw [ce] at h1
      obtain ⟨_, hlen, hcell⟩ := World.cells?_some h1
      obtain ⟨y0, y1, k, hxy, _, g0, g1⟩ := trod_struct2 Tryd.underlying54 h2
      obtain ⟨xs, k2, _, _, _, hxl, hg⟩ := DataW.trod_struct Tryd.underlying52 g1
      match xs, hxl, cs', hlen with
      | [z0, z1, z2, z3], _, [v0, v1, v2, v3, v4], _ =>
        have t0 := hg 0 _ rfl
        have t1 := hg 1 _ rfl
        have t2 := hg 2 _ rfl
        have t3 := hg 3 _ rfl
        simp [c1, c2, c3, cv] at g0 t0 t1 t2 t3
        obtain ⟨s0, hs0, _, w0⟩ := DataW.trod_string Tryd.underlying9 g0
        obtain ⟨s1, hs1, _, w1⟩ := DataW.trod_string Tryd.underlying9 t0
        obtain ⟨b2, hb2, _⟩ := DataW.trod_bool Tryd.underlying4 t1
        obtain ⟨k3, hk3, _, _⟩ := DataW.trod_int Tryd.underlying3 t2
        obtain ⟨k4, hk4, _, _⟩ := DataW.trod_int Tryd.underlying3 t3
        simp at hs0 hs1 hb2 hk3 hk4
        subst hs0 hs1 hb2 hk3 hk4
        have e0 := hcell 0 (by omega)
        have e1 := hcell 1 (by omega)
        have e2 := hcell 2 (by omega)
        have e3 := hcell 3 (by omega)
        have e4 := hcell 4 (by omega)
        rw [add_add] at e0 e1 e2 e3 e4
        refine ⟨⟨s0.data.toList, s1.data.toList, b2, k3, k4⟩, ?_, ?_, by simpa using e2, by simpa using e3, by simpa using e4, ?_, ?_⟩
        · rw [← cst_of]; simpa using e0
        · rw [← cst_of]; simpa using e1
        · simp only [Array.length_toList]; exact w0
        · simp only [Array.length_toList]; exact w1
    obtain ⟨q, hq⟩ := choose_lt each
    refine ⟨some x, n, c, (List.range n).map q, hcs, by simp, fun hn => ?_, hl, hm, fun y hy => ?_⟩
    · have hn0 : 0 < n := by rw [cellsN_len] at hn; simp at hn; exact hn
      obtain ⟨b, off, spot⟩ := x
      have h00 := (hq 0 hn0).1
      have hspot : spot = none := by simpa [Addr.add] using World.cell?_spot h00
      subst hspot
      refine ⟨b, off, rfl, fun j u hj => ?_⟩
      have hjl := (List.getElem?_eq_some_iff.1 hj).1
      rw [cellsN_len] at hjl
      simp at hjl
      have hi : j / 5 < n := by omega
      have hli : j / 5 < ((List.range n).map q).length := by simpa using hi
      obtain ⟨z0, z1, z2, z3, z4⟩ := cellsN_at ((List.range n).map q) (j / 5) hli
      have hqi := hq (j / 5) hi
      simp only [List.getElem_map, List.getElem_range] at z0 z1 z2 z3 z4
      rw [add_plain, add_plain, add_plain, add_plain, add_plain] at hqi
      have hcase : j = 5 * (j / 5) ∨ j = 5 * (j / 5) + 1 ∨ j = 5 * (j / 5) + 2 ∨ j = 5 * (j / 5) + 3 ∨ j = 5 * (j / 5) + 4 := by omega
      rcases hcase with e | e | e | e | e
      · rw [e, z0] at hj
        have hj := Option.some.inj hj
        have := hqi.1
        rw [← hj, show off + j = off + j / 5 * 5 by omega]
        exact this
      · rw [e, z1] at hj
        have hj := Option.some.inj hj
        have := hqi.2.1
        rw [← hj, show off + j = off + (j / 5 * 5 + 1) by omega]
        exact this
      · rw [e, z2] at hj
        have hj := Option.some.inj hj
        have := hqi.2.2.1
        rw [← hj, show off + j = off + (j / 5 * 5 + 2) by omega]
        exact this
      · rw [e, z3] at hj
        have hj := Option.some.inj hj
        have := hqi.2.2.2.1
        rw [← hj, show off + j = off + (j / 5 * 5 + 3) by omega]
        exact this
      · rw [e, z4] at hj
        have hj := Option.some.inj hj
        have := hqi.2.2.2.2.1
        rw [← hj, show off + j = off + (j / 5 * 5 + 4) by omega]
        exact this
    · obtain ⟨i, hi, rfl⟩ := List.mem_map.1 hy
      exact (hq i (List.mem_range.1 hi)).2.2.2.2.2
set_option maxRecDepth 100000 in
set_option maxHeartbeats 1000000 in
theorem arg_node {H : Type} {enc : TypeId × Value → H} {W : World} {v : Value} {d : DataW H} {p : List MemPlace} (hv : ∃ cs, v = .agg cs ∧ cs.size = Tryd.prog.cellsOf 24) (h : DataW.Trod enc Tryd.prog W 0 (fun _ => true) true 24 v d p) :
    ∃ (leaf : Bool) (A : Option Addr) (n c : Nat) (l : List En), v = .agg #[.bool leaf, .slice A n c] ∧ NodA W A n c l := by
  obtain ⟨cs, rfl, hcs⟩ := hv
  have cn : Tryd.prog.cellsOf 24 = 2 := by kernel_rfl
  have c3 : Tryd.prog.cellsOf 4 = 1 := by kernel_rfl
  have c4 : Tryd.prog.cellsOf 22 = 1 := by kernel_rfl
  obtain ⟨fuel, hf⟩ := h
  obtain ⟨y0, y1, k, hxy, hlen, g0, g1⟩ := trod_struct2 Tryd.underlying24 hf
  obtain ⟨cl⟩ := cs
  simp [Value.cells] at hlen g0 g1
  rw [cn] at hlen
  match cl, hlen with
  | [v0, v1], _ =>
    simp [c3, c4] at g0 g1
    obtain ⟨b, hb, _⟩ := DataW.trod_bool Tryd.underlying4 g0
    obtain ⟨A, n, c, l, rfl, hN⟩ := arg_entries g1
    simp at hb
    subst hb
    exact ⟨b, A, n, c, l, rfl, hN⟩

end Go.Proofs.YtnponjdnjkegmaaDoor
end
