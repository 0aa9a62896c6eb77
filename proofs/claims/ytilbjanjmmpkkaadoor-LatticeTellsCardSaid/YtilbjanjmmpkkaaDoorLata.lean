/- The first step of the laws of layer 3 (the document's example): it answers true, and turns nothing that was there. -/
import Derived.Test.YtilbjanjmmpkkaaDoorLatk
namespace Go.Proofs.YtilbjanjmmpkkaaDoor
open Go.RowKit
set_option linter.unusedVariables false

theorem lit_u64 (w : World) (l : List Nat) (fr : Nat × Nat) (cs : Array Value) (n : Nat) (h : cs = (l.map u64V).toArray) (hn : n = l.length) (hb : ∀ x ∈ l, x < 2 ^ 64) (hm : n ≤ 1000) : ArgU (w.alloc (.cells cs 25 fr)) (some ⟨w.heap.size, 0, none⟩) n n l :=
  ⟨hn, fun _ => ⟨w.heap.size, 0, rfl, fun j u hj => by
    subst h
    rw [World.cell?_alloc_mark]
    simpa using hj⟩, fun _ a ha => by injection ha with ha; subst ha; simp, Nat.le_refl _, by unfold maxLen; omega, hb⟩
theorem lit_i64 (w : World) (l : List Nat) (fr : Nat × Nat) (cs : Array Value) (h : cs = (l.map i64V).toArray) : Reads (w.alloc (.cells cs 3 fr)) (some ⟨w.heap.size, 0, none⟩) (l.map i64V) := fun _ =>
  ⟨w.heap.size, 0, rfl, fun j u hj => by
    subst h
    rw [World.cell?_alloc_mark]
    simpa using hj⟩
theorem ex_join : joinN [3, 2] 0 1 = 1 := by decide
theorem ex_meet : meetN [3, 2] 0 1 = 0 := by decide
theorem ex_down : downN [3, 2] 1 = 3 := by decide
theorem ex_leq : leqZ [3, 2] 0 1 = true := by decide
theorem ex_leq2 : leqZ [3, 2] 1 0 = false := by decide
theorem ex_list : listN 5 = [0, 2] := by decide

theorem ck1 (A : Option Addr) (w : World) (ht : Base3 w) (h : ArgU w A 2 2 [3, 2]) : Calls Tryd.prog 18 #[.slice A 2 2] w (BoolEnd true w) := by
  have := laCheck_any [3, 2] A 2 2 w ht h (by omega)
  rwa [checkB_yes lat32] at this
theorem ck2 (A : Option Addr) (w : World) (ht : Base3 w) (h : ArgU w A 2 2 [1, 2]) : Calls Tryd.prog 18 #[.slice A 2 2] w (BoolEnd false w) := by
  have := laCheck_any [1, 2] A 2 2 w ht h (by omega)
  rwa [checkB_no lat12] at this
theorem jn1 (A : Option Addr) (w : World) (ht : Base3 w) (h : ArgU w A 2 2 [3, 2]) : Calls Tryd.prog 14 #[.slice A 2 2, .int .i64 0, .int .i64 1] w (IntEnd 1 w) := by
  have := laJoin_any [3, 2] A 2 2 0 1 w ht h (by omega)
  rwa [ex_join] at this
theorem mt1 (A : Option Addr) (w : World) (ht : Base3 w) (h : ArgU w A 2 2 [3, 2]) : Calls Tryd.prog 16 #[.slice A 2 2, .int .i64 0, .int .i64 1] w (IntEnd 0 w) := by
  have := laMeet_any [3, 2] A 2 2 0 1 w ht h (by omega)
  rwa [ex_meet] at this
theorem dn1 (A : Option Addr) (w : World) (ht : Base3 w) (h : ArgU w A 2 2 [3, 2]) : Calls Tryd.prog 12 #[.slice A 2 2, .int .i64 1] w (U64End 3 w) := by
  have := laDown_any [3, 2] A 2 2 1 w ht h (by omega)
  rwa [ex_down] at this
theorem lq1 (A : Option Addr) (w : World) (ht : Base3 w) (h : ArgU w A 2 2 [3, 2]) : Calls Tryd.prog 10 #[.slice A 2 2, .int .i64 0, .int .i64 1] w (BoolEnd true w) := by
  have := laLeq_any [3, 2] A 2 2 0 1 w ht h (by omega)
  rwa [ex_leq] at this
theorem lq2 (A : Option Addr) (w : World) (ht : Base3 w) (h : ArgU w A 2 2 [3, 2]) : Calls Tryd.prog 10 #[.slice A 2 2, .int .i64 1, .int .i64 0] w (BoolEnd false w) := by
  have := laLeq_any [3, 2] A 2 2 1 0 w ht h (by omega)
  rwa [ex_leq2] at this
def List5 (w : World) (e : Ending) (w' : World) : Prop := ∃ A c, e = .returned (.slice A 2 c) ∧ 2 ≤ c ∧ Reads w' A (([0, 2] : List Nat).map i64V) ∧ Below w.heap.size w w'
theorem ls5 (w : World) (ht : Base3 w) : Calls Tryd.prog 27 #[.int .u64 5] w (List5 w) := by
  have := laList_any 5 w ht (by decide)
  rw [ex_list] at this
  exact this
theorem is5 (A : Option Addr) (c : Nat) (B : Option Addr) {w : World} (h1 : Reads w A (([0, 2] : List Nat).map i64V)) (h2 : Reads w B (([0, 2] : List Nat).map i64V)) : Calls Tryd.prog 28 #[.slice A 2 c, .slice B 2 2] w (BoolEnd true w) :=
  r3Ints_same [0, 2] A B 2 c 2 w rfl h1 h2 (by omega)

set_option maxRecDepth 100000 in
set_option maxHeartbeats 1000000 in
theorem awake03_any (w : World) (ht : Base3 w) : Calls Tryd.prog 9 #[] w fun e w' => e = .returned (.bool true) ∧ Below w.heap.size w w' := by
  have HT := Lib.hid ht
  clear ht
  go_enter Tryd.func9, Tryd.ntmps9
  have HU : Hid (ArgU (w.alloc (.cells #[.int .u64 3, .int .u64 2] 25)) (some ⟨w.heap.size, 0, none⟩) 2 2 [3, 2]) := Lib.hid (lit_u64 w [3, 2] _ _ 2 rfl rfl (by decide) (by omega))
  have B0 : Hid (Below w.heap.size w (w.alloc (.cells #[.int .u64 3, .int .u64 2] 25))) := Lib.hid ((Below.refl _ w).alloc (Nat.le_refl _) _)
  go_wp2_with (first
    | (go_at_call 18; (with_reducible refine (ck1 _ (w.alloc (.cells #[.int .u64 3, .int .u64 2] 25)) (HT.out.below ((Below.refl _ w).alloc (Nat.le_refl _) _)) HU.out).mono ?_); rintro e w1 ⟨rfl, h1⟩; have B1 := Lib.hid (B0.out.trans (h1.mono B0.out.size)); have U1 := Lib.hid (HU.out.below h1); clear h1)
    | (go_at_call 18; (with_reducible refine (ck2 _ _ ?_ ?_).mono ?_); (exact HT.out.below (B1.out.alloc B1.out.size _)); (exact lit_u64 w1 [1, 2] _ _ 2 rfl rfl (by decide) (by omega)); rintro e w2 ⟨rfl, h2⟩; have B2 := Lib.hid (below_step (B1.out.alloc B1.out.size _) h2); have U2 := Lib.hid ((U1.out.below ((Below.refl _ w1).alloc (Nat.le_refl _) _)).below h2); clear h2)
    | (go_at_call 14; (with_reducible refine (jn1 _ w2 (HT.out.below B2.out) U2.out).mono ?_); rintro e w3 ⟨rfl, h3⟩; have B3 := Lib.hid (below_step B2.out h3); have U3 := Lib.hid (U2.out.below h3); clear h3)
    | (go_at_call 16; (with_reducible refine (mt1 _ w3 (HT.out.below B3.out) U3.out).mono ?_); rintro e w4 ⟨rfl, h4⟩; have B4 := Lib.hid (below_step B3.out h4); have U4 := Lib.hid (U3.out.below h4); clear h4)
    | (go_at_call 12; (with_reducible refine (dn1 _ w4 (HT.out.below B4.out) U4.out).mono ?_); rintro e w5 ⟨rfl, h5⟩; have B5 := Lib.hid (below_step B4.out h5); have U5 := Lib.hid (U4.out.below h5); clear h5)
    | (go_at_call 10; (with_reducible refine (lq1 _ w5 (HT.out.below B5.out) U5.out).mono ?_); rintro e w6 ⟨rfl, h6⟩; have B6 := Lib.hid (below_step B5.out h6); have U6 := Lib.hid (U5.out.below h6); clear h6)
    | (go_at_call 10; (with_reducible refine (lq2 _ w6 (HT.out.below B6.out) U6.out).mono ?_); rintro e w7 ⟨rfl, h7⟩; have B7 := Lib.hid (below_step B6.out h7); clear h7)
    | (go_at_call 27; (with_reducible refine (ls5 w7 (HT.out.below B7.out)).mono ?_); rintro e w8 ⟨A8, c8, rfl, _, r8, h8⟩; have B8 := Lib.hid (below_step B7.out h8); have R8 := Lib.hid (r8.keep_ ((Below.refl _ w8).alloc (Nat.le_refl _) (.cells #[.int .i64 0, .int .i64 2] 3))); clear h8 r8)
    | (go_at_call 28; (with_reducible refine (is5 A8 c8 _ R8.out (lit_i64 w8 [0, 2] _ _ rfl)).mono ?_); rintro e w9 ⟨rfl, h9⟩; have B9 := Lib.hid (below_step (B8.out.alloc B8.out.size _) h9); clear h9))
  go_ret
  exact ⟨rfl, B9.out⟩

end Go.Proofs.YtilbjanjmmpkkaaDoor
