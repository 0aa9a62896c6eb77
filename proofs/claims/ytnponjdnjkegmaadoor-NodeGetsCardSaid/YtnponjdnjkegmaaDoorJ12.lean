import Derived.Test.YtnponjdnjkegmaaDoorJNel
import Derived.Test.YtnponjdnjkegmaaDoorJNej
import Derived.Test.YtnponjdnjkegmaaDoorJ11
import Derived.Test.YtnponjdnjkegmaaDoorJ07
/- Of a claim's texts, joined: Neo Rdj. No statement but in the last. -/
section
namespace Go.Proofs.YtnponjdnjkegmaaDoor
open Go.RowKit
set_option linter.unusedVariables false

theorem unpN_ok {b : List UInt8} (h : (unpN b).2.2 = 0) : b.length = 128 ∧ cFits (unpN b).1 (unpN b).2.1 ∧ cPage (unpN b).1 (unpN b).2.1 = b ∧ (∀ c ∈ (unpN b).2.1, c.length ≤ 128) ∧ (unpN b).2.1.length ≤ 122 := by
  by_cases hb : b.length = 128
  · by_cases ht : isTag b
    · by_cases hf : cForm b
      · rw [unpN_yes hb ht hf]
        exact ⟨hb, hf.1, hf.2, cut_short b hb, few_slots b hb⟩
      · rw [unpN_no hb ht hf] at h
        exact absurd h (by decide)
    · unfold unpN at h
      rw [if_neg (by rw [hb]; simp), if_pos ht] at h
      exact absurd h (by decide)
  · unfold unpN at h
    rw [if_pos hb] at h
    exact absurd h (by decide)
theorem getN_er {b : List UInt8} (h : (unpN b).2.2 ≠ 0) : getN b = (false, [], (unpN b).2.2) := by unfold getN; simp only [if_pos h]
theorem getN_kind {b : List UInt8} (h : (unpN b).2.2 = 0) (hk : ¬ ((unpN b).1 = 1 ∨ (unpN b).1 = 2)) : getN b = (false, [], 11) := by
  unfold getN
  simp only
  rw [if_neg (by simp [h]), if_pos (by simpa using hk)]
def leafN (b : List UInt8) : Bool := decide ((unpN b).1 = 1)
def nodN (b : List UInt8) : List En := (unpN b).2.1.map (readE (leafN b))
theorem getN_no {b : List UInt8} (h : (unpN b).2.2 = 0) (hk : (unpN b).1 = 1 ∨ (unpN b).1 = 2) (hc : ¬ (checkN (leafN b) (nodN b) ∧ cellsE (leafN b) (nodN b) = (unpN b).2.1)) : getN b = (false, [], 11) := by
  unfold nodN leafN at hc
  unfold getN
  simp only
  rw [if_neg (by simp [h]), if_neg (by rcases hk with h | h <;> simp [h]), if_neg hc]
theorem getN_yes {b : List UInt8} (h : (unpN b).2.2 = 0) (hk : (unpN b).1 = 1 ∨ (unpN b).1 = 2) (hc : checkN (leafN b) (nodN b) ∧ cellsE (leafN b) (nodN b) = (unpN b).2.1) : getN b = (leafN b, nodN b, 0) := by
  unfold nodN leafN at hc ⊢
  unfold getN
  simp only
  rw [if_neg (by simp [h]), if_neg (by rcases hk with h | h <;> simp [h]), if_pos hc]
theorem kindN_leaf {b : List UInt8} (hk : (unpN b).1 = 1 ∨ (unpN b).1 = 2) : kindN (leafN b) = (unpN b).1 := by
  unfold leafN kindN
  rcases hk with h | h <;> rw [h] <;> rfl
theorem again_is {b : List UInt8} (h : (unpN b).2.2 = 0) (hk : (unpN b).1 = 1 ∨ (unpN b).1 = 2) (hc : checkN (leafN b) (nodN b)) : (cPage (kindN (leafN b)) (cellsE (leafN b) (nodN b)) == b) = decide (cellsE (leafN b) (nodN b) = (unpN b).2.1) := by
  obtain ⟨_, hf, hp, _⟩ := unpN_ok h
  rw [Bool.eq_iff_iff]
  simp only [beq_iff_eq, decide_eq_true_eq]
  have h1 := cPage_inj (k := kindN (leafN b)) (k' := (unpN b).1) (l := cellsE (leafN b) (nodN b)) (l' := (unpN b).2.1) hc.2 hf.2
  rw [hp] at h1
  rw [h1]
  exact ⟨fun h => h.2, fun h => ⟨kindN_leaf hk, h⟩⟩
theorem nodN_few {b : List UInt8} (h : (unpN b).2.2 = 0) : FewN (nodN b) := by
  obtain ⟨_, _, _, h1, h2⟩ := unpN_ok h
  refine ⟨by unfold nodN; rw [List.length_map]; omega, fun e he => ?_⟩
  obtain ⟨c, hc, rfl⟩ := List.mem_map.1 he
  have := readE_few (leafN b) c
  have := h1 c hc
  omega
def GetN (r : Bool × List En × Int) (w : World) (e : Ending) (w' : World) : Prop := ∃ A n c, e = .returned (.tuple #[.agg #[.bool r.1, .slice A n c], .int .i64 r.2.2]) ∧ NodA w' A n c r.2.1 ∧ Below w.heap.size w w'
theorem box_node (w : World) : ∃ W, w.alloc (.cells #[.bool false, .slice none 0 0] 24) = W ∧ Below w.heap.size w W ∧ Has W w.heap.size 24 #[.bool false, .slice none 0 0] := ⟨_, rfl, (Below.refl _ w).alloc (Nat.le_refl _) _, Has.made w _ _⟩
theorem get_end {w w1 : World} {l : List En} {A : Option Addr} {n c : Nat} (leaf : Bool) {cs : Array Value} (hb : Below w.heap.size w w1) (hB : Has w1 w.heap.size 24 #[.bool false, .slice none 0 0]) :
    Below w.heap.size w ((w1.setCell ⟨w.heap.size, 0, none⟩ (.bool leaf)).setCell ⟨w.heap.size, 1, none⟩ (.slice A n c)) ∧ Has ((w1.setCell ⟨w.heap.size, 0, none⟩ (.bool leaf)).setCell ⟨w.heap.size, 1, none⟩ (.slice A n c)) w.heap.size 24 #[.bool leaf, .slice A n c] := by
  refine ⟨(hb.setCell (p := ⟨w.heap.size, 0, none⟩) (by show w.heap.size ≤ w.heap.size; omega) _).setCell (p := ⟨w.heap.size, 1, none⟩) (by show w.heap.size ≤ w.heap.size; omega) _, ?_⟩
  have := (hB.store 0 (.bool leaf)).store 1 (.slice A n c)
  simpa using this

set_option maxRecDepth 100000 in
set_option maxHeartbeats 4000000 in
theorem nGet_er (A : Option Addr) (n c : Nat) (b : List UInt8) (w : World) (ht : Tab w) (h : Arg w A n c b) (he : (unpN b).2.2 ≠ 0) :
    Calls Tryd.prog 20 #[.slice A n c] w (GetN (false, [], (unpN b).2.2) w) := by
  have hz := zero_node
  obtain ⟨W, hW, hb, hh⟩ := box_node w
  have HU := Lib.hid (ceUnpack_any A n c b W (ht.below hb) (h.below hb))
  have HB := Lib.hid hb
  have HH := Lib.hid hh
  obtain ⟨k, ls, er, hu⟩ : ∃ k ls er, unpN b = (k, ls, er) := ⟨_, _, _, rfl⟩
  rw [hu] at HU he ⊢
  simp only at he ⊢
  have he2 : (er != 0) = true := by simpa using he
  clear h ht hb hh hu he
  go_enter Tryd.func20, Tryd.ntmps20
  go_wp2_with (go_at_call 33; (try rw [hW]); (with_reducible refine HU.out.mono ?_); rintro r1 w1 ⟨A1, n1, c1, q1, rfl, k1, k2, b1⟩; have X1 := HH.out.below b1 HH.out.lt; have f0 := X1.free 0; have f1 := X1.free 1; have c0 := X1.cell 0; have c1 := X1.cell 1; have X1 := Lib.hid X1; have B1 := Lib.hid (below_step HB.out b1); clear k1 k2 b1)
  have hE := get_end (l := []) (A := none) (n := 0) (c := 0) false (cs := #[]) B1.out X1.out
  have q0 := hE.2.cell 0
  have q1 := hE.2.cell 1
  refine ⟨rfl, .tuple #[.agg #[.bool false, .slice none 0 0], .int .i64 er], ?_, none, 0, 0, rfl, NodA.none_ _, hE.1⟩
  simp at q0 q1
  simp [results, Tryd.f20, go_sem, q0, q1]

set_option maxRecDepth 100000 in
set_option maxHeartbeats 4000000 in
theorem nGet_kind (A : Option Addr) (n c : Nat) (b : List UInt8) (w : World) (ht : Tab w) (h : Arg w A n c b) (he : (unpN b).2.2 = 0) (hk : ¬ ((unpN b).1 = 1 ∨ (unpN b).1 = 2)) :
    Calls Tryd.prog 20 #[.slice A n c] w (GetN (false, [], 11) w) := by
  have hz := zero_node
  obtain ⟨W, hW, hb, hh⟩ := box_node w
  have HU := Lib.hid (ceUnpack_any A n c b W (ht.below hb) (h.below hb))
  have HB := Lib.hid hb
  have HH := Lib.hid hh
  obtain ⟨k, ls, er, hu⟩ : ∃ k ls er, unpN b = (k, ls, er) := ⟨_, _, _, rfl⟩
  rw [hu] at HU he hk
  simp only at he hk
  subst he
  have HS := Lib.hid (fun w => nShapeOn_any k w)
  have HK := Lib.hid hk
  clear h ht hb hh hu hk
  go_enter Tryd.func20, Tryd.ntmps20
  go_wp2_with (first
    | (go_at_call 33; (try rw [hW]); (with_reducible refine HU.out.mono ?_); rintro r1 w1 ⟨A1, n1, c1, q1, rfl, k1, k2, b1⟩; have X1 := Lib.hid (HH.out.below b1 HH.out.lt); have B1 := Lib.hid (below_step HB.out b1); clear k1 k2 b1)
    | (go_at_call 34; (with_reducible refine (HS.out _).mono ?_); rintro r2 w2 ⟨h1, b2⟩; obtain ⟨_, rfl⟩ : _ ∧ _ := h1.resolve_left (fun hh => HK.out hh.1); have X2 := X1.out.below b2 X1.out.lt; have f0 := X2.free 0; have f1 := X2.free 1; have c0 := X2.cell 0; have c1 := X2.cell 1; have X2 := Lib.hid X2; have B2 := Lib.hid (below_step B1.out b2); clear b2 h1))
  have hE := get_end (l := []) (A := none) (n := 0) (c := 0) false (cs := #[]) B2.out X2.out
  have q0 := hE.2.cell 0
  have q1 := hE.2.cell 1
  refine ⟨rfl, .tuple #[.agg #[.bool false, .slice none 0 0], .int .i64 11], ?_, none, 0, 0, rfl, NodA.none_ _, hE.1⟩
  simp at q0 q1
  simp [results, Tryd.f20, go_sem, q0, q1]

set_option maxRecDepth 100000 in
set_option maxHeartbeats 4000000 in
theorem nGet_no (A : Option Addr) (n c : Nat) (b : List UInt8) (w : World) (ht : Tab w) (h : Arg w A n c b) (he : (unpN b).2.2 = 0) (hk : (unpN b).1 = 1 ∨ (unpN b).1 = 2) (hc : ¬ checkN (leafN b) (nodN b)) :
    Calls Tryd.prog 20 #[.slice A n c] w (GetN (false, [], 11) w) := by
  have hz := zero_node
  have hfew := nodN_few he
  obtain ⟨hbl, _, _, hcs, hcn⟩ := unpN_ok he
  obtain ⟨W, hW, hb, hh⟩ := box_node w
  have HU := Lib.hid (ceUnpack_any A n c b W (ht.below hb) (h.below hb))
  have HB := Lib.hid hb
  have HH := Lib.hid hh
  have HQ : Hid (∀ q, lq q = (unpN b).2.1 → Few q ∧ nodQ (leafN b) q = nodN b) := Lib.hid (fun q hq => ⟨⟨by rw [← lq_len, hq]; omega, fun x hx => by have := hcs x.l (by rw [← hq]; exact List.mem_map_of_mem hx); omega⟩, by rw [nodQ_lq, hq]; rfl⟩)
  have HS := Lib.hid (fun w => nShapeOn_any (unpN b).1 w)
  have HK := Lib.hid hk
  have HLK : Hid (decide ((unpN b).1 = 1) = leafN b) := Lib.hid rfl
  have HP := Lib.hid (fun A n c w1 (h : NodA w1 A n c (nodN b)) => nPut_no (leafN b) A n c (nodN b) w1 h hfew hc)
  have HRD := Lib.hid (fun A n c q w1 (h : CellsA w1 A n c q) (hf : Few q) => nRead_any (leafN b) A n c q w1 h hf)
  clear h ht hb hh hk hbl hcs hcn hfew hc
  generalize leafN b = leaf at *
  generalize nodN b = nl at *
  obtain ⟨k, ls, er, hu⟩ : ∃ k ls er, unpN b = (k, ls, er) := ⟨_, _, _, rfl⟩
  rw [hu] at HU HQ HS HK HLK he
  simp only at HU HQ HS HK HLK he
  subst he
  clear hu
  obtain ⟨sv, hsv⟩ : ∃ sv, shpV leaf = sv := ⟨_, rfl⟩
  rw [hsv] at HRD
  unfold ShpOn at HS
  rw [HLK.out, hsv] at HS
  clear hsv
  go_enter Tryd.func20, Tryd.ntmps20
  go_wp2_with (first
    | (go_at_call 33; (try rw [hW]); (with_reducible refine HU.out.mono ?_); rintro r1 w1 ⟨A1, n1, c1, q1, rfl, k1, k2, b1⟩; have K1 := Lib.hid k1; have L1 := Lib.hid (HQ.out _ k2); have X1 := Lib.hid (HH.out.below b1 HH.out.lt); have B1 := Lib.hid (below_step HB.out b1); clear k1 k2 b1)
    | (go_at_call 34; (with_reducible refine (HS.out _).mono ?_); rintro r2 w2 ⟨h1, b2⟩; obtain ⟨_, rfl⟩ : _ ∧ _ := h1.resolve_right (fun hh => hh.1 HK.out); have K2 := Lib.hid (K1.out.below b2); have X2 := Lib.hid (X1.out.below b2 X1.out.lt); have B2 := Lib.hid (below_step B1.out b2); clear b2 h1)
    | (go_at_call 35; (with_reducible refine (HRD.out _ _ _ _ _ K2.out L1.out.1).mono ?_); rintro r3 w3 ⟨A3, n3, c3, rfl, d3, b3, lo3⟩; rw [L1.out.2] at d3; obtain ⟨w4, hw4⟩ : ∃ w4, w3.alloc (.cells #[.bool leaf, .slice A3 n3 c3] 24) = w4 := ⟨_, rfl⟩; have Y4 := hw4 ▸ Has.made w3 24 #[.bool leaf, .slice A3 n3 c3]; have b34 : Below w3.heap.size w3 w4 := hw4 ▸ (Below.refl _ w3).alloc (Nat.le_refl _) _; have D4 := Lib.hid (d3.below b34); have b4 := below_step b3 b34; have X4 := Lib.hid (X2.out.below b4 X2.out.lt); have B4 := Lib.hid (below_step B2.out b4); have y0 := Y4.cell 0; have y1 := Y4.cell 1; have Y4 := Lib.hid Y4; have LO3 := Lib.hid lo3; clear b3 b34 b4 d3 lo3)
    | (go_at_call 11; (try rw [hw4]); (with_reducible refine (HP.out _ _ _ _ D4.out).mono ?_); rintro r5 w5 ⟨rfl, b5⟩; have X5 := X4.out.below b5 X4.out.lt; have f0 := X5.free 0; have f1 := X5.free 1; have c0 := X5.cell 0; have c1 := X5.cell 1; have X5 := Lib.hid X5; have B5 := Lib.hid (below_step B4.out b5); clear b5))
  have hE := get_end (l := []) (A := none) (n := 0) (c := 0) false (cs := #[]) B5.out X5.out
  have q0 := hE.2.cell 0
  have q1 := hE.2.cell 1
  refine ⟨rfl, .tuple #[.agg #[.bool false, .slice none 0 0], .int .i64 11], ?_, none, 0, 0, rfl, NodA.none_ _, hE.1⟩
  simp at q0 q1
  simp [results, Tryd.f20, go_sem, q0, q1]
set_option maxRecDepth 100000 in
set_option maxHeartbeats 4000000 in
theorem nGet_not (A : Option Addr) (n c : Nat) (b : List UInt8) (w : World) (ht : Tab w) (h : Arg w A n c b) (he : (unpN b).2.2 = 0) (hk : (unpN b).1 = 1 ∨ (unpN b).1 = 2) (hc : checkN (leafN b) (nodN b)) (hv : ¬ cellsE (leafN b) (nodN b) = (unpN b).2.1) :
    Calls Tryd.prog 20 #[.slice A n c] w (GetN (false, [], 11) w) := by
  have hz := zero_node
  have hfew := nodN_few he
  obtain ⟨hbl, _, _, hcs, hcn⟩ := unpN_ok he
  obtain ⟨W, hW, hb, hh⟩ := box_node w
  have HU := Lib.hid (ceUnpack_any A n c b W (ht.below hb) (h.below hb))
  have HB := Lib.hid hb
  have HH := Lib.hid hh
  have HQ : Hid (∀ q, lq q = (unpN b).2.1 → Few q ∧ nodQ (leafN b) q = nodN b) := Lib.hid (fun q hq => ⟨⟨by rw [← lq_len, hq]; omega, fun x hx => by have := hcs x.l (by rw [← hq]; exact List.mem_map_of_mem hx); omega⟩, by rw [nodQ_lq, hq]; rfl⟩)
  have HS := Lib.hid (fun w => nShapeOn_any (unpN b).1 w)
  have HK := Lib.hid hk
  have HLK : Hid (decide ((unpN b).1 = 1) = leafN b) := Lib.hid rfl
  have HP := Lib.hid (fun A n c w1 (ht : Tab w1) (h : NodA w1 A n c (nodN b)) => nPut_yes (leafN b) A n c (nodN b) w1 ht h hfew hc)
  have HV : Hid ((cPage (kindN (leafN b)) (cellsE (leafN b) (nodN b)) == b) = false) := Lib.hid (by rw [again_is he hk hc]; exact decide_eq_false hv)
  have HPL := Lib.hid (cPage_len (kindN (leafN b)) (cellsE (leafN b) (nodN b)) hc.2)
  have HT := Lib.hid ht
  have HA := Lib.hid h
  have HRD := Lib.hid (fun A n c q w1 (h : CellsA w1 A n c q) (hf : Few q) => nRead_any (leafN b) A n c q w1 h hf)
  clear h ht hb hh hk hbl hcs hcn hfew hc hv
  unfold PackOk at HP
  generalize cPage (kindN (leafN b)) (cellsE (leafN b) (nodN b)) = pg at *
  generalize leafN b = leaf at *
  generalize nodN b = nl at *
  obtain ⟨k, ls, er, hu⟩ : ∃ k ls er, unpN b = (k, ls, er) := ⟨_, _, _, rfl⟩
  rw [hu] at HU HQ HS HK HLK he
  simp only at HU HQ HS HK HLK he
  subst he
  clear hu
  obtain ⟨sv, hsv⟩ : ∃ sv, shpV leaf = sv := ⟨_, rfl⟩
  rw [hsv] at HRD
  unfold ShpOn at HS
  rw [HLK.out, hsv] at HS
  clear hsv
  go_enter Tryd.func20, Tryd.ntmps20
  go_wp2_with (first
    | (go_at_call 33; (try rw [hW]); (with_reducible refine HU.out.mono ?_); rintro r1 w1 ⟨A1, n1, c1, q1, rfl, k1, k2, b1⟩; have K1 := Lib.hid k1; have L1 := Lib.hid (HQ.out _ k2); have X1 := Lib.hid (HH.out.below b1 HH.out.lt); have B1 := Lib.hid (below_step HB.out b1); clear k1 k2 b1)
    | (go_at_call 34; (with_reducible refine (HS.out _).mono ?_); rintro r2 w2 ⟨h1, b2⟩; obtain ⟨_, rfl⟩ : _ ∧ _ := h1.resolve_right (fun hh => hh.1 HK.out); have K2 := Lib.hid (K1.out.below b2); have X2 := Lib.hid (X1.out.below b2 X1.out.lt); have B2 := Lib.hid (below_step B1.out b2); clear b2 h1)
    | (go_at_call 35; (with_reducible refine (HRD.out _ _ _ _ _ K2.out L1.out.1).mono ?_); rintro r3 w3 ⟨A3, n3, c3, rfl, d3, b3, lo3⟩; rw [L1.out.2] at d3; obtain ⟨w4, hw4⟩ : ∃ w4, w3.alloc (.cells #[.bool leaf, .slice A3 n3 c3] 24) = w4 := ⟨_, rfl⟩; have Y4 := hw4 ▸ Has.made w3 24 #[.bool leaf, .slice A3 n3 c3]; have b34 : Below w3.heap.size w3 w4 := hw4 ▸ (Below.refl _ w3).alloc (Nat.le_refl _) _; have D4 := Lib.hid (d3.below b34); have b4 := below_step b3 b34; have X4 := Lib.hid (X2.out.below b4 X2.out.lt); have B4 := Lib.hid (below_step B2.out b4); have y0 := Y4.cell 0; have y1 := Y4.cell 1; have Y4 := Lib.hid Y4; have LO3 := Lib.hid lo3; clear b3 b34 b4 d3 lo3)
    | (go_at_call 11; (try rw [hw4]); (with_reducible refine (HP.out _ _ _ _ (HT.out.below B4.out) D4.out).mono ?_); rintro r5 w5 ⟨A5, c5, rfl, g1, g2, g3, b5⟩; have G3 := Lib.hid g3.reads; have X5 := Lib.hid (X4.out.below b5 X4.out.lt); have Y5 := Lib.hid (Y4.out.below b5 Y4.out.lt); have D5 := Lib.hid (D4.out.below b5); have B5 := Lib.hid (below_step B4.out b5); clear b5 g3)
    | (go_at_call 36; (with_reducible refine (beq_any A5 A 128 c5 n c pg b w5 _ HV.out HPL.out.symm HA.out.len G3.out (HA.out.below B5.out).reads).mono ?_); rintro r6 w6 ⟨rfl, rfl⟩; have X6 := X5.out; have f0 := X6.free 0; have f1 := X6.free 1; have c0 := X6.cell 0; have c1 := X6.cell 1; have Y6 := Y5.out; have y0 := Y6.cell 0; have y1 := Y6.cell 1; clear X6 Y6))
  have hE := get_end (l := []) (A := none) (n := 0) (c := 0) false (cs := #[]) B5.out X5.out
  have q0 := hE.2.cell 0
  have q1 := hE.2.cell 1
  refine ⟨rfl, .tuple #[.agg #[.bool false, .slice none 0 0], .int .i64 11], ?_, none, 0, 0, rfl, NodA.none_ _, hE.1⟩
  simp at q0 q1
  simp [results, Tryd.f20, go_sem, q0, q1]
set_option maxRecDepth 100000 in
set_option maxHeartbeats 4000000 in
theorem nGet_yes (A : Option Addr) (n c : Nat) (b : List UInt8) (w : World) (ht : Tab w) (h : Arg w A n c b) (he : (unpN b).2.2 = 0) (hk : (unpN b).1 = 1 ∨ (unpN b).1 = 2) (hc : checkN (leafN b) (nodN b)) (hv : cellsE (leafN b) (nodN b) = (unpN b).2.1) :
    Calls Tryd.prog 20 #[.slice A n c] w (GetN (leafN b, nodN b, 0) w) := by
  have hz := zero_node
  have hfew := nodN_few he
  obtain ⟨hbl, _, _, hcs, hcn⟩ := unpN_ok he
  obtain ⟨W, hW, hb, hh⟩ := box_node w
  have HU := Lib.hid (ceUnpack_any A n c b W (ht.below hb) (h.below hb))
  have HB := Lib.hid hb
  have HH := Lib.hid hh
  have HQ : Hid (∀ q, lq q = (unpN b).2.1 → Few q ∧ nodQ (leafN b) q = nodN b) := Lib.hid (fun q hq => ⟨⟨by rw [← lq_len, hq]; omega, fun x hx => by have := hcs x.l (by rw [← hq]; exact List.mem_map_of_mem hx); omega⟩, by rw [nodQ_lq, hq]; rfl⟩)
  have HS := Lib.hid (fun w => nShapeOn_any (unpN b).1 w)
  have HK := Lib.hid hk
  have HLK : Hid (decide ((unpN b).1 = 1) = leafN b) := Lib.hid rfl
  have HP := Lib.hid (fun A n c w1 (ht : Tab w1) (h : NodA w1 A n c (nodN b)) => nPut_yes (leafN b) A n c (nodN b) w1 ht h hfew hc)
  have HV : Hid ((cPage (kindN (leafN b)) (cellsE (leafN b) (nodN b)) == b) = true) := Lib.hid (by rw [again_is he hk hc]; exact decide_eq_true hv)
  have HPL := Lib.hid (cPage_len (kindN (leafN b)) (cellsE (leafN b) (nodN b)) hc.2)
  have HT := Lib.hid ht
  have HA := Lib.hid h
  have HRD := Lib.hid (fun A n c q w1 (h : CellsA w1 A n c q) (hf : Few q) => nRead_any (leafN b) A n c q w1 h hf)
  clear h ht hb hh hk hbl hcs hcn hfew hc hv
  unfold PackOk at HP
  generalize cPage (kindN (leafN b)) (cellsE (leafN b) (nodN b)) = pg at *
  generalize leafN b = leaf at *
  generalize nodN b = nl at *
  obtain ⟨k, ls, er, hu⟩ : ∃ k ls er, unpN b = (k, ls, er) := ⟨_, _, _, rfl⟩
  rw [hu] at HU HQ HS HK HLK he
  simp only at HU HQ HS HK HLK he
  subst he
  clear hu
  obtain ⟨sv, hsv⟩ : ∃ sv, shpV leaf = sv := ⟨_, rfl⟩
  rw [hsv] at HRD
  unfold ShpOn at HS
  rw [HLK.out, hsv] at HS
  clear hsv
  go_enter Tryd.func20, Tryd.ntmps20
  go_wp2_with (first
    | (go_at_call 33; (try rw [hW]); (with_reducible refine HU.out.mono ?_); rintro r1 w1 ⟨A1, n1, c1, q1, rfl, k1, k2, b1⟩; have K1 := Lib.hid k1; have L1 := Lib.hid (HQ.out _ k2); have X1 := Lib.hid (HH.out.below b1 HH.out.lt); have B1 := Lib.hid (below_step HB.out b1); clear k1 k2 b1)
    | (go_at_call 34; (with_reducible refine (HS.out _).mono ?_); rintro r2 w2 ⟨h1, b2⟩; obtain ⟨_, rfl⟩ : _ ∧ _ := h1.resolve_right (fun hh => hh.1 HK.out); have K2 := Lib.hid (K1.out.below b2); have X2 := Lib.hid (X1.out.below b2 X1.out.lt); have B2 := Lib.hid (below_step B1.out b2); clear b2 h1)
    | (go_at_call 35; (with_reducible refine (HRD.out _ _ _ _ _ K2.out L1.out.1).mono ?_); rintro r3 w3 ⟨A3, n3, c3, rfl, d3, b3, lo3⟩; rw [L1.out.2] at d3; obtain ⟨w4, hw4⟩ : ∃ w4, w3.alloc (.cells #[.bool leaf, .slice A3 n3 c3] 24) = w4 := ⟨_, rfl⟩; have Y4 := hw4 ▸ Has.made w3 24 #[.bool leaf, .slice A3 n3 c3]; have b34 : Below w3.heap.size w3 w4 := hw4 ▸ (Below.refl _ w3).alloc (Nat.le_refl _) _; have D4 := Lib.hid (d3.below b34); have b4 := below_step b3 b34; have X4 := Lib.hid (X2.out.below b4 X2.out.lt); have B4 := Lib.hid (below_step B2.out b4); have y0 := Y4.cell 0; have y1 := Y4.cell 1; have Y4 := Lib.hid Y4; have LO3 := Lib.hid lo3; clear b3 b34 b4 d3 lo3)
    | (go_at_call 11; (try rw [hw4]); (with_reducible refine (HP.out _ _ _ _ (HT.out.below B4.out) D4.out).mono ?_); rintro r5 w5 ⟨A5, c5, rfl, g1, g2, g3, b5⟩; have G3 := Lib.hid g3.reads; have X5 := Lib.hid (X4.out.below b5 X4.out.lt); have Y5 := Lib.hid (Y4.out.below b5 Y4.out.lt); have D5 := Lib.hid (D4.out.below b5); have B5 := Lib.hid (below_step B4.out b5); clear b5 g3)
    | (go_at_call 36; (with_reducible refine (beq_any A5 A 128 c5 n c pg b w5 _ HV.out HPL.out.symm HA.out.len G3.out (HA.out.below B5.out).reads).mono ?_); rintro r6 w6 ⟨rfl, rfl⟩; have X6 := X5.out; have f0 := X6.free 0; have f1 := X6.free 1; have c0 := X6.cell 0; have c1 := X6.cell 1; have Y6 := Y5.out; have y0 := Y6.cell 0; have y1 := Y6.cell 1; clear X6 Y6))
  have hE := get_end (l := []) (A := A3) (n := n3) (c := c3) leaf (cs := #[]) B5.out X5.out
  have q0 := hE.2.cell 0
  have q1 := hE.2.cell 1
  refine ⟨rfl, .tuple #[.agg #[.bool leaf, .slice A3 n3 c3], .int .i64 0], ?_, A3, n3, c3, rfl, ?_, hE.1⟩
  · simp at q0 q1
    simp [results, Tryd.f20, go_sem, q0, q1]
  · have hlt := X2.out.lt
    exact (D5.out.set (fun a ha => Nat.lt_of_lt_of_le hlt (LO3.out a ha)) 0 _).set (fun a ha => Nat.lt_of_lt_of_le hlt (LO3.out a ha)) 1 _
theorem nGet_any (A : Option Addr) (n c : Nat) (b : List UInt8) (w : World) (ht : Tab w) (h : Arg w A n c b) : Calls Tryd.prog 20 #[.slice A n c] w (GetN (getN b) w) := by
  by_cases he : (unpN b).2.2 = 0
  · by_cases hk : (unpN b).1 = 1 ∨ (unpN b).1 = 2
    · by_cases hc : checkN (leafN b) (nodN b)
      · by_cases hv : cellsE (leafN b) (nodN b) = (unpN b).2.1
        · rw [getN_yes he hk ⟨hc, hv⟩]
          exact nGet_yes A n c b w ht h he hk hc hv
        · rw [getN_no he hk (fun hh => hv hh.2)]
          exact nGet_not A n c b w ht h he hk hc hv
      · rw [getN_no he hk (fun hh => hc hh.1)]
        exact nGet_no A n c b w ht h he hk hc
    · rw [getN_kind he hk]
      exact nGet_kind A n c b w ht h he hk
  · rw [getN_er he]
    exact nGet_er A n c b w ht h he
end Go.Proofs.YtnponjdnjkegmaaDoor
end

section
namespace Go.Proofs.YtnponjdnjkegmaaDoor
open Go.RowKit
set_option linter.unusedVariables false

section
variable {P : Program} {ops : Array Oper} {Q : Exit → Act → World → Prop} {md : Region.Mode} {C S : World → Prop} {k : Nat}
def wpAnyJ (P : Program) (md : Region.Mode) (ops : Array Oper) (Q : Exit → Act → World → Prop) (C S : World → Prop) (k : Nat) : Nat → Array Bool → Act → World → Prop
  | 0, listed, a, w => Region.ready md ops listed = [] ∧ Q .normal a w
  | fuel + 1, listed, a, w =>
    (Region.ready md ops listed = [] → Q .normal a w) ∧
    ∀ i ∈ Region.ready md ops listed, wpOp P ops Q i (fun a' w' => (((listed.setIfInBounds i true).getD k false = true ∨ C w') ∧ S w') ∧ wpAnyJ P md ops Q C S k fuel (listed.setIfInBounds i true) a' w') a w
theorem wpAny_of_J : ∀ (fuel : Nat) (listed : Array Bool) (a : Act) (w : World), wpAnyJ P md ops Q C S k fuel listed a w → wpAny P md ops Q fuel listed a w
  | 0, _, _, _, h => h
  | fuel + 1, _, _, _, h => ⟨h.1, fun i hi => wpOp_mono (fun a' w' h' => wpAny_of_J fuel _ a' w' h'.2) (h.2 i hi)⟩
theorem wpAnyJ_first {i : Nat} {oi : Oper} {v : Value} (hi : ops[i]? = some oi) (hsel : ∀ (j : Nat) (o : Oper) cs b, ops[j]? = some o → o.op ≠ .select cs b)
    (hQ : ∀ c a w, Q (.panic c) (a.put oi.dst v) w → Q (.panic c) a w) (hk : Region.waitsFor md ops k i = true) (hki : k ≠ i) :
    ∀ (fuel : Nat) (listed : Array Bool) (a : Act) (w : World),
      (∀ j oj, ops[j]? = some oj → j ≠ i → listed.getD j true = false → (∀ e ∈ oj.after, Region.binds md e = true → e.on ≠ i) → oi.apart ops oj = true) →
      i ∈ Region.ready md ops listed → listed.getD k false = false → YieldsIf P ops C oi v a → C w → S w →
      wpAnyJ P md ops Q C S k fuel (listed.setIfInBounds i true) (a.put oi.dst v) w → wpAnyJ P md ops Q C S k (fuel + 1) listed a w := by
  intro fuel
  induction fuel with
  | zero =>
    intro listed a w _ hr hkl hy hC hS H
    refine ⟨fun h => (by rw [h] at hr; cases hr), fun j hj => ?_⟩
    by_cases hji : j = i
    · subst hji; exact hy.wpOp hi hC ⟨⟨.inr hC, hS⟩, H⟩
    · have := ready_mono hj hji
      rw [H.1] at this
      cases this
  | succ fuel ih =>
    intro listed a w hfree hr hkl hy hC hS H
    refine ⟨fun h => (by rw [h] at hr; cases hr), fun j hj => ?_⟩
    by_cases hji : j = i
    · subst hji; exact hy.wpOp hi hC ⟨⟨.inr hC, hS⟩, H⟩
    · have h1 := H.2 j (ready_mono hj hji)
      obtain ⟨hjun, oj, hoj, hall⟩ := mem_ready.1 hj
      have hnot := ready_waits (oj := oj) hr hall
      have hjk : k ≠ j := fun e => by
        subst e
        obtain ⟨ok, hok, e, he, hb, hon⟩ := Region.waitsFor_spec hk
        rw [hoj] at hok
        injection hok with hok
        subst hok
        exact hnot e he hb hon
      have h2 := wpOp_putIf hoj (hfree j oj hoj hji hjun hnot) (fun cs b => hsel i oi cs b hi) (fun cs b => hsel j oj cs b hoj) hQ hy h1
      have hfree' : ∀ k ok, ops[k]? = some ok → k ≠ i → (listed.setIfInBounds j true).getD k true = false →
          (∀ e ∈ ok.after, Region.binds md e = true → e.on ≠ i) → oi.apart ops ok = true := fun k ok hk hki hun hno => by
        refine hfree k ok hk hki ?_ hno
        by_cases hjk : j = k
        · subst hjk; exact hjun
        · rw [getD_set_ne true hjk] at hun; exact hun
      have hkl' : (listed.setIfInBounds j true).getD k false = false := by rw [getD_set_ne false (Ne.symm hjk)]; exact hkl
      refine wpOp_mono (fun a' w' h3 => ?_) h2
      have hC' : C w' := by
        rcases h3.2.1.1 with h | h
        · rw [getD_set_ne false (Ne.symm hjk), getD_set_ne false (Ne.symm hki), hkl] at h
          cases h
        · exact h
      refine ⟨⟨.inr hC', h3.2.1.2⟩, ih (listed.setIfInBounds j true) a' w' hfree' (ready_mono hr (Ne.symm hji)) hkl' h3.1 hC' h3.2.1.2 ?_⟩
      rw [Array.setIfInBounds_comm _ _ hji]
      exact h3.2.2
theorem wpAnyJ_firstS {i : Nat} {oi : Oper} {v : Value} (hi : ops[i]? = some oi) (hsel : ∀ (j : Nat) (o : Oper) cs b, ops[j]? = some o → o.op ≠ .select cs b)
    (hQ : ∀ c a w, Q (.panic c) (a.put oi.dst v) w → Q (.panic c) a w) (hki : k ≠ i) :
    ∀ (fuel : Nat) (listed : Array Bool) (a : Act) (w : World),
      (∀ j oj, ops[j]? = some oj → j ≠ i → listed.getD j true = false → (∀ e ∈ oj.after, Region.binds md e = true → e.on ≠ i) → oi.apart ops oj = true) →
      i ∈ Region.ready md ops listed → (listed.getD k false = true ∨ C w) → S w → YieldsIf P ops S oi v a →
      wpAnyJ P md ops Q C S k fuel (listed.setIfInBounds i true) (a.put oi.dst v) w → wpAnyJ P md ops Q C S k (fuel + 1) listed a w := by
  intro fuel
  induction fuel with
  | zero =>
    intro listed a w _ hr hC hS hy H
    refine ⟨fun h => (by rw [h] at hr; cases hr), fun j hj => ?_⟩
    by_cases hji : j = i
    · subst hji; exact hy.wpOp hi hS ⟨⟨hC.imp (fun h => by rw [getD_set_ne false (Ne.symm hki)]; exact h) id, hS⟩, H⟩
    · have := ready_mono hj hji
      rw [H.1] at this
      cases this
  | succ fuel ih =>
    intro listed a w hfree hr hC hS hy H
    refine ⟨fun h => (by rw [h] at hr; cases hr), fun j hj => ?_⟩
    by_cases hji : j = i
    · subst hji; exact hy.wpOp hi hS ⟨⟨hC.imp (fun h => by rw [getD_set_ne false (Ne.symm hki)]; exact h) id, hS⟩, H⟩
    · have h1 := H.2 j (ready_mono hj hji)
      obtain ⟨hjun, oj, hoj, hall⟩ := mem_ready.1 hj
      have hnot := ready_waits (oj := oj) hr hall
      have h2 := wpOp_putIf hoj (hfree j oj hoj hji hjun hnot) (fun cs b => hsel i oi cs b hi) (fun cs b => hsel j oj cs b hoj) hQ hy h1
      have hfree' : ∀ k ok, ops[k]? = some ok → k ≠ i → (listed.setIfInBounds j true).getD k true = false →
          (∀ e ∈ ok.after, Region.binds md e = true → e.on ≠ i) → oi.apart ops ok = true := fun k ok hk hki hun hno => by
        refine hfree k ok hk hki ?_ hno
        by_cases hjk : j = k
        · subst hjk; exact hjun
        · rw [getD_set_ne true hjk] at hun; exact hun
      refine wpOp_mono (fun a' w' h3 => ?_) h2
      have hC' : (listed.setIfInBounds j true).getD k false = true ∨ C w' := by
        refine h3.2.1.1.imp (fun h => ?_) id
        rw [Array.setIfInBounds_comm _ _ (Ne.symm hji), getD_set_ne false (Ne.symm hki)] at h
        exact h
      refine ⟨⟨hC', h3.2.1.2⟩, ih (listed.setIfInBounds j true) a' w' hfree' (ready_mono hr (Ne.symm hji)) hC' h3.2.1.2 h3.1 ?_⟩
      rw [Array.setIfInBounds_comm _ _ hji]
      exact h3.2.2
theorem wpAnyJ_take {i : Nat} {oi : Oper} {v : Value} {fuel : Nat} {listed : Array Bool} {a : Act} {w : World} (hi : ops[i]? = some oi)
    (hs : Region.noSelect ops = true) (hf : Region.free md ops listed i = true) (hr : (Region.ready md ops listed).contains i = true) (hk : Region.waitsFor md ops k i = true) (hki : k ≠ i) (hkl : listed.getD k false = false)
    (hQ : ∀ c a w, Q (.panic c) (a.put oi.dst v) w → Q (.panic c) a w) (hy : YieldsIf P ops C oi v a) (hC : C w) (hS : S w)
    (h : wpAnyJ P md ops Q C S k fuel (listed.setIfInBounds i true) (a.put oi.dst v) w) : wpAnyJ P md ops Q C S k (fuel + 1) listed a w :=
  wpAnyJ_first hi (Region.noSelect_spec hs) hQ hk hki fuel listed a w (Region.free_spec hi hf) (by simpa using hr) hkl hy hC hS h
theorem wpAnyJ_takeS {i : Nat} {oi : Oper} {v : Value} {fuel : Nat} {listed : Array Bool} {a : Act} {w : World} (hi : ops[i]? = some oi)
    (hs : Region.noSelect ops = true) (hf : Region.free md ops listed i = true) (hr : (Region.ready md ops listed).contains i = true) (hki : k ≠ i)
    (hQ : ∀ c a w, Q (.panic c) (a.put oi.dst v) w → Q (.panic c) a w) (hy : YieldsIf P ops S oi v a) (hC : listed.getD k false = true ∨ C w) (hS : S w)
    (h : wpAnyJ P md ops Q C S k fuel (listed.setIfInBounds i true) (a.put oi.dst v) w) : wpAnyJ P md ops Q C S k (fuel + 1) listed a w :=
  wpAnyJ_firstS hi (Region.noSelect_spec hs) hQ hki fuel listed a w (Region.free_spec hi hf) (by simpa using hr) hC hS hy h
theorem wpAnyJ_one {i : Nat} {o : Oper} {fuel : Nat} {listed : Array Bool} {a : Act} {w : World} (hr : Region.ready md ops listed = [i]) (ho : ops[i]? = some o)
    (h : ∀ K' : Act → World → Prop, Shut (∀ a w, ((listed.setIfInBounds i true).getD k false = true ∨ C w) → S w → wpAnyJ P md ops Q C S k fuel (listed.setIfInBounds i true) a w → K' a w) → if Region.wanted o (yielded ops a.tmps) = true then Oper.wp P o a w K' Q else K' (a.put o.dst undef) w) :
    wpAnyJ P md ops Q C S k (fuel + 1) listed a w :=
  ⟨fun h0 => (by rw [hr] at h0; cases h0), fun j hj => by
    rw [hr] at hj
    obtain rfl : j = i := by simpa using hj
    exact wpOp_step ho (fun K' hK => h K' (fun a w hC hS hW => hK a w ⟨⟨hC, hS⟩, hW⟩))⟩
theorem wpAnyJ_done {listed : Array Bool} {a : Act} {w : World} (hr : Region.ready md ops listed = []) (h : Q .normal a w) :
    ∀ fuel, wpAnyJ P md ops Q C S k fuel listed a w
  | 0 => ⟨hr, h⟩
  | _ + 1 => ⟨fun _ => h, by rw [hr]; simp⟩
theorem wp_heldJQ {id : Nat} {a : Act} {w : World} (C S : World → Prop) (k : Nat) (hm : P.follows .mixedOrders = true)
    (h : wpAnyJ P .any ops (Runs (Q .normal)) C S k ops.size (Array.replicate ops.size false) a w.drew) : (Code.region id ops true).wp P Q a w :=
  wp_mono (Q := Runs (Q .normal)) (wp_region_any hm (wpAny_of_J _ _ _ _ h)) (fun e a w h => by cases e <;> first | exact h | exact False.elim h)
end

end Go.Proofs.YtnponjdnjkegmaaDoor
end
