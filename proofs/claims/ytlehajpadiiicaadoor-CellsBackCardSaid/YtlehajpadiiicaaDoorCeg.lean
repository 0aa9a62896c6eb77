/- The first step of the laws of layer 7 (the document's example); no statement. -/
import Derived.Test.YtlehajpadiiicaaDoorCef
namespace Go.Proofs.YtlehajpadiiicaaDoor
open Go.RowKit
set_option linter.unusedVariables false

theorem fits1 : cFits 1 [[97]] := by decide
theorem page1 : (cPage 1 [[97]])[127]? = some 97 ∧ (cPage 1 [[97]])[6]? = some 127 := by
  obtain ⟨a, b, c, d, h⟩ := tag_split (cBody 1 1 [[97]])
  have e : cPage 1 [[97]] = [a, b, c, d] ++ cBody 1 1 [[97]] := h
  rw [e]
  constructor <;> rfl
/-- A cell of a slice of bytes. -/
theorem Arg.at_ {w : World} {A : Option Addr} {n c : Nat} {l : List UInt8} (h : Arg w A n c l) {k : Nat} {x : UInt8} (hk : l[k]? = some x) : ∃ g off, A = some ⟨g, off, none⟩ ∧ w.cell? ⟨g, off + k, none⟩ = some (.int .u8 (x.toNat : Int)) := by
  have hl := (List.getElem?_eq_some_iff.1 hk).1
  obtain ⟨g, off, hA, hc⟩ := h.reads (by rw [List.length_map]; omega)
  exact ⟨g, off, hA, hc k (byteV x) (by rw [List.getElem?_map, hk]; rfl)⟩
theorem arg_lit (w : World) (l : List UInt8) (W : World) (hW : W = w.alloc (.cells (l.map byteV).toArray 5)) (h0 : 0 < l.length) (hm : l.length ≤ 1000000) : Arg W (some ⟨w.heap.size, 0, none⟩) l.length l.length l := by
  subst hW
  exact Arg.of_row (row_made w l) rfl h0 (Nat.le_refl _) (by unfold maxLen; omega)

theorem pack1 (w : World) (A : Option Addr) (c : Nat) (a : Option Addr) (ht : Tab w) (h : CellsA w A 1 c [⟨a, 1, 1, [97]⟩]) : Calls Tryd.prog 10 #[.int .u8 1, .slice A 1 c] w (PackOk 1 [[97]] w) := by
  have e : lq [⟨a, 1, 1, [97]⟩] = [[97]] := rfl
  have hp := cePack_yes 1 A 1 c _ w ht h ⟨by simp, fun x hx => by obtain rfl := List.mem_singleton.1 hx; exact (by decide : 1 ≤ 1000)⟩ (by rw [e]; exact fits1)
  rw [e, show ((1 : UInt8).toNat : Int) = 1 from rfl] at hp
  exact hp
theorem unpack1 (w : World) (A : Option Addr) (c : Nat) (ht : Tab w) (h : Arg w A 128 c (cPage 1 [[97]])) : Calls Tryd.prog 15 #[.slice A 128 c] w (UnpEnd (1, [[97]], 0) w) := by
  have := ceUnpack_any A 128 c _ w ht h
  rwa [unpN_page fits1] at this
theorem pack0 (w : World) : Calls Tryd.prog 10 #[.int .u8 0, .slice none 0 0] w (PackNo w) := cePack_no 0 none 0 0 [] w (CellsA.none_ w) ⟨by simp, fun x hx => by cases hx⟩ (fun h => h.1 rfl)

theorem lq_one {q : List Hd} {n : Nat} {l : List UInt8} (hn : n = q.length) (h : lq q = [l]) : ∃ y, q = [y] ∧ n = 1 ∧ y.l = l := by
  rcases q with _ | ⟨y, _ | ⟨z, q⟩⟩
  · cases h
  · injection h with h _
    exact ⟨y, rfl, hn, h⟩
  · injection h with _ h
    cases h
theorem size1 (A : Option Addr) (c : Nat) (w : World) (y : Hd) (hy : y.l = [97]) (h : CellsA w A 1 c [y]) : Calls Tryd.prog 13 #[.slice A 1 c] w fun e w' => e = .returned (.int .i64 2) ∧ w = w' := by
  have := ceSize_any A 1 c [y] w h ⟨by simp, fun x hx => by obtain rfl := List.mem_singleton.1 hx; rw [hy]; simp⟩
  have e : lq [y] = [[97]] := by simp [lq, hy]
  rw [e] at this
  exact this
set_option maxRecDepth 100000 in
set_option maxHeartbeats 4000000 in
theorem awake07_any (w : World) (ht : Tab w) : Calls Tryd.prog 8 #[] w (fun e w' => e = .returned (.bool true) ∧ Below w.heap.size w w') := by
  have HT := Lib.hid ht
  clear ht
  obtain ⟨W, hW⟩ : ∃ W, (w.alloc (.cells #[.int .u8 97] 5)).alloc (.cells #[.slice (some ⟨w.heap.size, 0, none⟩) 1 1] 25) = W := ⟨_, rfl⟩
  have hB : Below w.heap.size w W := hW ▸ ((Below.refl _ w).alloc (Nat.le_refl _) _).alloc (by simp) _
  have h1 : Arg W (some ⟨w.heap.size, 0, none⟩) 1 1 [97] := hW ▸ (arg_lit w [97] _ rfl (by decide) (by decide)).below ((Below.refl _ _).alloc (Nat.le_refl _) _)
  have hC : CellsA W (some ⟨w.heap.size + 1, 0, none⟩) 1 1 [⟨some ⟨w.heap.size, 0, none⟩, 1, 1, [97]⟩] :=
    ⟨rfl, fun _ => ⟨w.heap.size + 1, 0, rfl, fun j u hj => by
      have hm := Has.made (w.alloc (.cells #[.int .u8 97] 5)) 25 #[.slice (some ⟨w.heap.size, 0, none⟩) 1 1]
      rw [hW] at hm
      have e9 : (w.alloc (.cells #[.int .u8 97] 5)).heap.size = w.heap.size + 1 := by simp
      rw [e9] at hm
      rw [hm.cell, Nat.zero_add]
      simpa [Hd.v] using hj⟩, fun x hx => by obtain rfl := List.mem_singleton.1 hx; exact h1, Nat.le_refl _, by unfold maxLen; omega, fun h => by cases h⟩
  have HP := Lib.hid (pack1 W _ _ _ (HT.out.below hB) hC)
  have HU := Lib.hid (fun A c w1 (hb : Below w.heap.size w w1) (h : Arg w1 A 128 c (cPage 1 [[97]])) => unpack1 w1 A c (HT.out.below hb) h)
  have HN := Lib.hid pack0
  have HB := Lib.hid hB
  have P1 := Lib.hid page1.1
  have P2 := Lib.hid page1.2
  have PL := Lib.hid (cPage_len 1 [[97]] (by decide))
  clear hC h1 hB
  go_enter Tryd.func8, Tryd.ntmps8
  go_wp2_with (first
    | (go_at_call 10; (try rw [hW]); (with_reducible refine HP.out.mono ?_); rintro e w1 ⟨A1, c1, rfl, g1, g2, r1, b1⟩; have R1 := Lib.hid (Arg.of_row r1 PL.out.symm (by decide) g1 g2); have B1 := Lib.hid (below_step HB.out b1); clear r1 b1)
    | (go_at_call 15; (with_reducible refine (HU.out A1 c1 w1 B1.out R1.out).mono ?_); rintro e w2 ⟨A2, n2, c2, q2, rfl, hc2, hl2, b2⟩; have C2 := Lib.hid hc2; have L2 := Lib.hid hl2; have R2 := Lib.hid (R1.out.below b2); have B2 := Lib.hid (below_step B1.out b2); clear hc2 hl2 b2)
    | (go_at_call 10; (with_reducible refine (HN.out _).mono ?_); rintro e w3 ⟨rfl, b3⟩; obtain ⟨y, rfl, rfl, hy⟩ := lq_one C2.out.len L2.out; have C3 := Lib.hid (C2.out.below b3); have R3 := Lib.hid (R2.out.below b3); have B3 := Lib.hid (below_step B2.out b3); obtain ⟨g1, o1, rfl, x1⟩ := R3.out.at_ P1.out; obtain ⟨g1', o1', hgo, x2⟩ := R3.out.at_ P2.out; (injection hgo with hgo; injection hgo with e1 e2 _; subst e1 e2); obtain ⟨g2, o2, rfl, x3⟩ := C3.out.at (k := 0) (by simp); have hy3 := C3.out.each y (by simp); have hst := run_string_of (P := Tryd.prog) w3 25 9 5 Tryd.underlying25 Tryd.underlying5 Tryd.underlying9 (cap := y.c) hy3.len hy3.reads; rw [hy] at hst; have HSZ := Lib.hid (size1 _ _ w3 y hy C3.out); have x3 : w3.cell? ⟨g2, o2, none⟩ = some (.slice y.a y.n y.c) := x3; have x1 : w3.cell? ⟨g1, o1 + 127, none⟩ = some (.int .u8 97) := x1; have x2 : w3.cell? ⟨g1, o1 + 6, none⟩ = some (.int .u8 127) := x2; have c128 := g1; clear b3 hy3)
    | (go_at_call 13; (with_reducible refine HSZ.out.mono ?_); rintro e w4 ⟨rfl, rfl⟩))
  go_ret
  exact ⟨rfl, B3.out⟩

end Go.Proofs.YtlehajpadiiicaaDoor
