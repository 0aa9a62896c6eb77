/- The walk of the law GrantsBack. -/
import Derived.Test.YtbgpjboefnacgaaGrBackm
import Derived.Deep.RegionWith
import Derived.Deep.RegionHeld
import Derived.BigQuiet
import Derived.Deep.Onto
namespace Go.Proofs.Ytbgpjboefnacgaa
open Go.RowKit
set_option linter.unusedVariables false

theorem argG_own2 {w : World} {B n c : Nat} {A : Option Addr} {l : List G} (h : w.ownsRow B 29 3 (.slice A n c) n (cellsG l)) (hn : n = l.length) : ArgG w A n c l := by
  obtain ⟨A', c', he, ha⟩ := argG_own h hn
  injection he with e1 e2 e3
  subst e1 e3
  exact ha
theorem sameG_yes2 {K : List G} {A B : Option Addr} {n c n' c' : Nat} {w : World} (h : ArgG w A n c K) (h' : ArgG w B n' c' K) (hk : K.length ≤ 64) : Calls Try.prog 24 #[.slice A n c, .slice B n' c'] w (BoolEnd true w) := by
  have := r4Same_any A B n c n' c' K K w h h' (by have := h.len; omega)
  rw [show decide (K = K) = true by simp] at this
  exact this
def PutOwn (l : List UInt8) (n : Nat) (w : World) (e : Ending) (w' : World) : Prop := ∃ A c, e = .returned (.slice A n c) ∧ n ≤ c ∧ c ≤ maxLen ∧ w'.ownsRow w.heap.size 5 1 (.slice A n c) n (l.map byteV) ∧ Below w.heap.size w w'
def GetNo4 (er : Int) (w : World) (e : Ending) (w' : World) : Prop := ∃ A n c, e = .returned (.tuple #[.slice A n c, .int .i64 er]) ∧ Below w.heap.size w w'

set_option maxRecDepth 100000 in
set_option maxHeartbeats 2000000 in
theorem walkGrBack (B : Option Addr) (m d : Nat) (l : List G) (w : World) (ht : Base4 w) (hl : ArgG w B m d l) :
    Calls Try.prog 7 #[.slice B m d] w fun e w' => e = .returned (.bool true) ∧ Below w.heap.size w w' := by
  have HT := Lib.hid ht
  have HG := Lib.hid hl
  clear ht hl
  by_cases hg : 64 < m
  · have e1 : decide (64 < (m : Int)) = true := by simp; omega
    go_enter Try.func7, Try.ntmps7
    go_wp2_with (go_at_call 8; refine (awake04_any _ HT.out).mono ?_; rintro e w0 ⟨rfl, h0⟩; have B0 := Lib.hid h0; clear h0)
    go_ret
    exact ⟨rfl, B0.out⟩
  have e1 : decide (64 < (m : Int)) = false := by simp; omega
  go_enter Try.func7, Try.ntmps7
  go_wp2_with (go_at_call 8; refine (awake04_any _ HT.out).mono ?_; rintro e w0 ⟨rfl, h0⟩; have B0 := Lib.hid h0; clear h0)
  go_loopw [4] (fun i wr => ∃ k : Nat, k ≤ m ∧ i = .int .i64 k ∧ (∀ g ∈ l.take k, inB g) ∧ Below w.heap.size w wr) (fun i _ => m - (intOf i).toNat)
  case atStart => exact ⟨0, Nat.zero_le _, rfl, fun g h => absurd h (by simp), B0.out⟩
  case round =>
    obtain ⟨k, hk, rfl, hI, hB⟩ := hrel
    have BW := Lib.hid hB
    have HI := Lib.hid hI
    clear hB hI
    by_cases hlt : k < m
    · have hkl : k < l.length := by have := HG.out.len; omega
      have HC := Lib.hid (fun w1 (h1 : Below w.heap.size w w1) => (HG.out.below h1).reads.gat hkl)
      obtain ⟨b, off, rfl, c1, c2, c3⟩ := HC.out wr BW.out
      have HNext : Hid (inB l[k] → ∀ g ∈ l.take (k + 1), inB g) := Lib.hid (fun h g hg => by
        rw [List.take_succ_eq_append_getElem hkl, List.mem_append] at hg
        rcases hg with hg | hg
        · exact HI.out g hg
        · simp at hg
          rw [hg]
          exact h)
      have i0 : (0 : Int) ≤ (k : Int) := by omega
      have i1 : (k : Int) < (m : Int) := by omega
      generalize l[k] = y at c1 c2 c3 HNext
      clear HC hkl
      have HBx := Lib.hid (BW.out.alloc BW.out.size (.cells #[.int .i64 y.a, .int .i64 y.f, .int .i64 y.t] 29))
      have hall : (decide (y.a < 0) = true) ∨ (decide (y.a < 0) = false ∧ decide (255 < y.a) = true) ∨ (decide (y.a < 0) = false ∧ decide (255 < y.a) = false ∧ decide (y.f < 0) = true) ∨ (decide (y.a < 0) = false ∧ decide (255 < y.a) = false ∧ decide (y.f < 0) = false ∧ decide (255 < y.f) = true) ∨ (decide (y.a < 0) = false ∧ decide (255 < y.a) = false ∧ decide (y.f < 0) = false ∧ decide (255 < y.f) = false ∧ decide (y.t < 0) = true) ∨ (decide (y.a < 0) = false ∧ decide (255 < y.a) = false ∧ decide (y.f < 0) = false ∧ decide (255 < y.f) = false ∧ decide (y.t < 0) = false ∧ decide (255 < y.t) = true) ∨ (decide (y.a < 0) = false ∧ decide (255 < y.a) = false ∧ decide (y.f < 0) = false ∧ decide (255 < y.f) = false ∧ decide (y.t < 0) = false ∧ decide (255 < y.t) = false) := by
        simp only [decide_eq_true_eq, decide_eq_false_iff_not]
        omega
      rcases hall with k1 | ⟨k1, k2⟩ | ⟨k1, k2, k3⟩ | ⟨k1, k2, k3, k4⟩ | ⟨k1, k2, k3, k4, k5⟩ | ⟨k1, k2, k3, k4, k5, k6⟩ | ⟨k1, k2, k3, k4, k5, k6⟩
      · go_wp2
        go_ret
        exact ⟨rfl, HBx.out⟩
      · go_wp2
        go_ret
        exact ⟨rfl, HBx.out⟩
      · go_wp2
        go_ret
        exact ⟨rfl, HBx.out⟩
      · go_wp2
        go_ret
        exact ⟨rfl, HBx.out⟩
      · go_wp2
        go_ret
        exact ⟨rfl, HBx.out⟩
      · go_wp2
        go_ret
        exact ⟨rfl, HBx.out⟩
      · have HIn := Lib.hid (HNext.out (by
          simp only [decide_eq_false_iff_not] at k1 k2 k3 k4 k5 k6
          unfold inB
          omega))
        go_wp2
        go_roundw
        case rel => exact ⟨k + 1, by omega, by go_num, HIn.out, HBx.out⟩
        case measure => simp [intOf]; omega
    · obtain rfl : k = m := by omega
      have hlm := HG.out.len
      have hb : ∀ g ∈ l, inB g := fun g hgl => HI.out g (by rw [List.take_of_length_le (by omega)]; exact hgl)
      have h64 : l.length ≤ 64 := by omega
      have hpl : (putG l).length = 3 * k + 1 := by rw [putG_small l h64, List.length_cons, bytesG_len]; omega
      have HPL := Lib.hid hpl
      have g1 := get_put l h64 hb
      have g2 := get_less l h64 hb
      have g3 := get_more l h64 hb
      rw [hpl, Nat.add_sub_cancel] at g2
      have HP := Lib.hid (fun w1 (h1 : Below w.heap.size w w1) => show Calls Try.prog 22 #[.slice B k d] w1 (PutOwn (putG l) (3 * k + 1) w1) by
        have := gPut_any l B k d w1 (HT.out.below h1) (HG.out.below h1) (by omega)
        refine this.mono fun e w' ⟨A', c', he, k1, k2, k3, k4⟩ => ?_
        simp only [hpl] at he k1 k3
        exact ⟨A', c', he, k1, k2, k3, k4⟩)
      have HG1 := Lib.hid (fun w1 (h1 : Below w.heap.size w w1) (A1 : Option Addr) (c1 : Nat) (hcc : 3 * k + 1 ≤ c1) (hr : Reads w1 A1 ((putG l).map byteV)) => show Calls Try.prog 20 #[.slice A1 (3 * k + 1) c1] w1 (GetOwn l 0 w1) by
        have := gGet_any (putG l) A1 (3 * k + 1) c1 w1 (HT.out.below h1) hpl.symm hcc (by omega) hr
        rw [g1] at this
        exact this)
      have HG2 := Lib.hid (fun w1 (h1 : Below w.heap.size w w1) (A1 : Option Addr) (c1 : Nat) (hcc : 3 * k + 1 ≤ c1) (hr : Reads w1 A1 ((putG l).map byteV)) => show Calls Try.prog 20 #[.slice A1 (3 * k) c1] w1 (GetNo4 10 w1) by
        have := gGet_any ((putG l).take (3 * k)) A1 (3 * k) c1 w1 (HT.out.below h1) (by rw [List.length_take]; omega) (by omega) (by rw [List.length_take]; omega) (by rw [List.map_take]; exact hr.take _)
        rw [g2] at this
        exact this.mono fun e w' ⟨A', n', c', he, _, _, k⟩ => ⟨A', n', c', he, k⟩)
      have HG3 := Lib.hid (fun w1 (h1 : Below w.heap.size w w1) (A1 : Option Addr) (c1 : Nat) (hcc : 3 * k + 1 + 1 ≤ c1) (hr : Reads w1 A1 ((putG l ++ [0]).map byteV)) => show Calls Try.prog 20 #[.slice A1 (3 * k + 1 + 1) c1] w1 (GetNo4 11 w1) by
        have := gGet_any (putG l ++ [0]) A1 (3 * k + 1 + 1) c1 w1 (HT.out.below h1) (by rw [List.length_append, hpl]; rfl) hcc (by rw [List.length_append]; simp; omega) hr
        rw [g3] at this
        exact this.mono fun e w' ⟨A', n', c', he, _, _, k⟩ => ⟨A', n', c', he, k⟩)
      have HLn := Lib.hid h64
      clear hpl g1 g2 g3 hb hlm h64
      obtain ⟨i0, hi, hz0, hz1, hz2⟩ := info_parts u8info
      obtain ⟨w1, hw1⟩ : ∃ w1 : World, w1 = wr := ⟨_, rfl⟩
      subst hw1
      go_wp2_with (first
        | (go_at_call 22; refine (HP.out _ BW.out).mono ?_; rintro e w2 ⟨A2, c2, rfl, k1, k2, o2, h1⟩; have O2 := Lib.hid (o2.mono BW.out.size); have R2 := Lib.hid (Row.of_own o2); have B2 := Lib.hid (below_step BW.out h1); unfold maxLen at k2; clear h1 o2)
        | (go_at_call 20; (with_reducible refine (HG1.out w2 B2.out A2 c2 k1 R2.out.reads).mono ?_); rintro e w3 ⟨A3, n3, c3, rfl, u3, o3, h1⟩; have O3 := Lib.hid (own_below O2.out h1); have R3 := Lib.hid (R2.out.below h1); have U3 := Lib.hid (o3.mono B2.out.size); have N3 := Lib.hid u3; have B3 := Lib.hid (below_step B2.out h1); clear h1 u3 o3)
        | (go_at_call 20; (with_reducible refine (HG2.out w3 B3.out A2 c2 k1 R3.out.reads).mono ?_); rintro e w4 ⟨A4, n4, c4, rfl, h1⟩; have O4 := Lib.hid (own_below O3.out h1); have U4 := Lib.hid (own_below U3.out h1); have B4 := Lib.hid (below_step B3.out h1); clear h1)
        | (at_builtin; refine wpList_append_own _ rfl _ _ 35 rfl w.heap.size 5 i0 (.int .u8 0) 1 1 Try.underlying35 hi hz0 hz1 hz2 rfl (by decide) _ (3 * k + 1) _ rfl (O4.out.alloc _) ⟨w4.heap.size, 0, none⟩ 1 1 [.int .u8 0] rfl rfl ?_ ?_ ?_ ?_ ?_ ?_; (exact cell_one_new _ _ _); (intro u hu; simp at hu; subst hu; rfl); (unfold maxLen; omega); (omega); (have hq := B4.out.size; simp; omega); intro v6 w6 h7 h8 h9; have h10 := below_own (B4.out.alloc B4.out.size (.cells #[.int .u8 0] 5)) h8 (O4.out.alloc (.cells #[.int .u8 0] 5)) (by have := B4.out.size; simp; omega); have U6 := Lib.hid (World.ownsRow.kept (U4.out.alloc (.cells #[.int .u8 0] 5)) h8 (own_apart (U4.out.alloc (.cells #[.int .u8 0] 5)) (O4.out.alloc (.cells #[.int .u8 0] 5)) (show (29 : TypeId) ≠ 5 by decide))); rw [show [Value.int .u8 0] = [(0 : UInt8)].map byteV from rfl, ← List.map_append] at h7; obtain ⟨A6, c6, rfl, k3, k4⟩ := own_slice h7; have R6 := Lib.hid (Row.of_own h7); have B6 := Lib.hid h10; clear h7 h8 h9 h10)
        | (go_at_call 20; (with_reducible refine (HG3.out w6 B6.out A6 c6 k3 R6.out.reads).mono ?_); rintro e w7 ⟨A7, n7, c7, rfl, h1⟩; have U7 := Lib.hid (own_below U6.out h1); have B7 := Lib.hid (below_step B6.out h1); clear h1)
        | (go_at_call 24; refine (sameG_yes2 (argG_own2 U7.out N3.out.len) (HG.out.below B7.out) HLn.out).mono ?_; rintro e w8 ⟨rfl, h1⟩; have B8 := Lib.hid (below_step B7.out h1); clear h1))
      go_ret
      exact ⟨rfl, B8.out⟩

end Go.Proofs.Ytbgpjboefnacgaa
