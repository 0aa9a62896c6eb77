import Derived.Test.YtglkmpglpddfdaaGreatDoorJCor1
import Derived.Lib.Bytealg
import Derived.OwnWalk
/- Of a claim's texts, joined: Cpa. No statement but in the last. -/
namespace Go.Proofs.YtglkmpglpddfdaaGreatDoor
open Go.RowKit
set_option linter.unusedVariables false

/-! strings.Cut. -/
def cutAt (c : UInt8) : List UInt8 → List UInt8 × List UInt8 × Bool
  | [] => ([], [], false)
  | b :: t => if b = c then ([], t, true) else (b :: (cutAt c t).1, (cutAt c t).2.1, (cutAt c t).2.2)
theorem idxB_cases (c : UInt8) (L : List UInt8) : (∃ k : Nat, k < L.length ∧ Lib.indexByte L c = (k : Int) ∧ cutAt c L = (L.take k, L.drop (k + 1), true)) ∨ (Lib.indexByte L c = -1 ∧ cutAt c L = (L, [], false)) := by
  induction L with
  | nil => right; exact ⟨rfl, rfl⟩
  | cons b t ih =>
    by_cases hb : b = c
    · left
      refine ⟨0, by simp, by simp [Lib.indexByte, hb], by simp [cutAt, hb]⟩
    · rcases ih with ⟨k, h1, h2, h3⟩ | ⟨h2, h3⟩
      · left
        refine ⟨k + 1, by simpa using h1, ?_, by simp [cutAt, hb, h3]⟩
        have e1 : (b == c) = false := by simpa using hb
        have e2 : ((k : Int) == -1) = false := by simp
        simp [Lib.indexByte, e1, h2, e2]
      · right
        refine ⟨?_, by simp [cutAt, hb, h3]⟩
        have e1 : (b == c) = false := by simpa using hb
        simp only [Lib.indexByte, e1, h2]
        simp
theorem indexByteStr_any (L : List UInt8) (c : UInt8) (w : World) : Calls Tryz.prog 135 #[.string ⟨L.toArray⟩, .int .u8 (c.toNat : Int)] w fun e w' => e = .returned (.int .i64 (Lib.indexByte L c)) ∧ w = w' := by
  have h : (callFunc 147 #[.string ⟨L.toArray⟩, .int .u8 (c.toNat : Int)]).run Tryz.prog w = .ok (.value (.int .i64 (Lib.indexByte L c))) w := by
    rw [run_callFunc_extern Tryz.func147 (by kernel_rfl) (by kernel_rfl) (by kernel_rfl) (e := Extern.BytealgIndexByte.indexByte) (by kernel_rfl), Lib.run_indexByteString]
    simp [Result.andThen]
  go_enter Tryz.func135, Tryz.ntmps135
  go_wp2
  go_ret
  exact ⟨rfl, rfl⟩
theorem slIndex_any (L : List UInt8) (c : UInt8) (w : World) : Calls Tryz.prog 115 #[.string ⟨L.toArray⟩, .string ⟨[c].toArray⟩] w fun e w' => e = .returned (.int .i64 (Lib.indexByte L c)) ∧ w = w' := by
  have hs : (⟨[c].toArray⟩ : ByteArray).size = 1 := rfl
  have hg : (((⟨[c].toArray⟩ : ByteArray)[0]'(by show 0 < 1; omega)).toNat : Int) = (c.toNat : Int) := rfl
  cases he : ([c] == L)
  · have HI := Lib.hid (fun w1 => indexByteStr_any L c w1)
    go_enter Tryz.func115, Tryz.ntmps115
    go_wp2_with (go_at_call 135; (with_reducible refine (HI.out _).mono ?_); rintro e w' ⟨rfl, rfl⟩)
    go_ret
    exact ⟨rfl, rfl⟩
  · have HE : Hid (Lib.indexByte L c = 0) := Lib.hid (by
      have : [c] = L := by simpa using he
      subst this
      simp [Lib.indexByte])
    go_enter Tryz.func115, Tryz.ntmps115
    go_wp2
    go_ret
    exact ⟨by rw [HE.out]; rfl, rfl⟩
theorem mid_ext (L : List UInt8) (a b : Nat) : (⟨L.toArray⟩ : ByteArray).extract a b = ⟨((L.drop a).take (b - a)).toArray⟩ := by
  apply ByteArray.ext
  rw [ByteArray.data_extract]
  simp only [List.extract_toArray, List.extract_eq_take_drop]
theorem ret_cut {a b a' b' : ByteArray} (h1 : a = a') (h2 : b = b') : Ending.returned (.tuple #[.string a, .string b, .bool true]) = Ending.returned (.tuple #[.string a', .string b', .bool true]) := by rw [h1, h2]
def CutEnd (x : List UInt8 × List UInt8 × Bool) (w : World) (e : Ending) (w' : World) : Prop := e = .returned (.tuple #[.string ⟨x.1.toArray⟩, .string ⟨x.2.1.toArray⟩, .bool x.2.2]) ∧ Below w.heap.size w w'
set_option maxRecDepth 100000 in
theorem slCut_any (L : List UInt8) (c : UInt8) (w : World) (hl : L.length ≤ 281474976710656) : Calls Tryz.prog 78 #[.string ⟨L.toArray⟩, .string ⟨[c].toArray⟩] w (CutEnd (cutAt c L) w) := by
  have HI := Lib.hid (fun w1 => slIndex_any L c w1)
  have hs : (⟨[c].toArray⟩ : ByteArray).size = 1 := rfl
  have hsz : (⟨L.toArray⟩ : ByteArray).size = L.length := size_list L
  rcases idxB_cases c L with ⟨k, h1, h2, h3⟩ | ⟨h2, h3⟩
  · rw [h2] at HI
    rw [h3]
    have he1 : (⟨L.toArray⟩ : ByteArray).extract 0 k = ⟨(L.take k).toArray⟩ := by rw [mid_ext]; simp
    have he2 : (⟨L.toArray⟩ : ByteArray).extract (k + 1) L.length = ⟨(L.drop (k + 1)).toArray⟩ := by
      rw [mid_ext, List.take_of_length_le (by rw [List.length_drop]; exact Nat.le_refl _)]
    have HE1 := Lib.hid he1
    have HE2 := Lib.hid he2
    clear he1 he2
    clear h2 h3
    go_enter Tryz.func78, Tryz.ntmps78
    go_wp2_with (go_at_call 115; (with_reducible refine (HI.out _).mono ?_); rintro e w' ⟨rfl, rfl⟩)
    go_region
    go_wp2
    refine bodyPost_ret (results_tmp3 rfl _ _ _) rfl ?_
    exact ⟨ret_cut HE1.out HE2.out, by first | exact Below.refl _ _ | exact (Below.refl _ _).drew⟩
  · rw [h2] at HI
    rw [h3]
    clear h2 h3
    go_enter Tryz.func78, Tryz.ntmps78
    go_wp2_with (go_at_call 115; (with_reducible refine (HI.out _).mono ?_); rintro e w' ⟨rfl, rfl⟩)
    refine bodyPost_ret (results_tmp3 rfl _ _ _) rfl ?_
    exact ⟨rfl, Below.refl _ _⟩
theorem strCut_any (L : List UInt8) (c : UInt8) (w : World) (hl : L.length ≤ 281474976710656) : Calls Tryz.prog 46 #[.string ⟨L.toArray⟩, .string ⟨[c].toArray⟩] w (CutEnd (cutAt c L) w) := by
  have HC := Lib.hid (fun w1 => slCut_any L c w1 hl)
  generalize cutAt c L = x at HC ⊢
  obtain ⟨x1, x2, x3⟩ := x
  go_enter Tryz.func46, Tryz.ntmps46
  go_wp2_with (go_at_call 78; (with_reducible refine (HC.out _).mono ?_); rintro e w' ⟨rfl, h1⟩; have B1 := Lib.hid h1; clear h1)
  refine bodyPost_ret (results_tmp3 rfl _ _ _) rfl ?_
  exact ⟨rfl, B1.out⟩

/-! slices.Index, Contains of texts. -/
set_option maxHeartbeats 1000000 in
theorem indexS_any (A : Option Addr) (n c : Nat) (l : List (List UInt8)) (s : List UInt8) (w : World) (h : ArgT w A n c l) (hn : n ≤ 1000000) :
    Calls Tryz.prog 108 #[.slice A n c, .string ⟨s.toArray⟩] w fun e w' => e = .returned (.int .i64 (findN l s)) ∧ w = w' := by
  have HA := Lib.hid h
  have HN := Lib.hid h.len
  clear h
  go_enter Tryz.func108, Tryz.ntmps108
  go_wp2
  go_loopw [8] (fun i wr => wr = w ∧ ∃ k : Nat, k ≤ n ∧ i = .int .i64 k ∧ ∀ j, j < k → decide (l.getD j [] = s) = false) (fun i _ => n - (intOf i).toNat)
  case atStart => exact ⟨rfl, 0, Nat.zero_le _, rfl, fun j hj => absurd hj (by omega)⟩
  case round =>
    obtain ⟨rfl, k, hk, rfl, hj⟩ := hrel
    have HJ := Lib.hid hj
    clear hj
    by_cases hlt : k < n
    · have hkl : k < l.length := by have := HN.out; omega
      obtain ⟨g, off, rfl, ck⟩ := HA.out.reads.sat_ hkl
      have hg := getT_at l k hkl
      by_cases he : l[k] = s
      · have HF : Hid (findN l s = k) := Lib.hid (firstN_some hkl (by rw [hg, he]; simp) HJ.out)
        rw [he] at ck
        go_wp2
        go_ret
        exact ⟨ret_i64 HF.out.symm, rfl⟩
      · have hne : (s == l[k]) = false := by simpa using fun e => he e.symm
        have HF : Hid (decide (l.getD k [] = s) = false) := Lib.hid (by rw [hg]; simpa using he)
        generalize l[k] = u at ck hne
        clear hg he
        go_wp2
        go_roundw
        case rel => exact ⟨trivial, k + 1, by omega, by go_num, fun j hj => by
          by_cases e : j = k
          · subst e; exact HF.out
          · exact HJ.out j (by omega)⟩
        case measure => simp [intOf]; omega
    · obtain rfl : k = n := by omega
      have HF : Hid (findN l s = -1) := Lib.hid (firstN_none (by rw [← HN.out]; exact HJ.out))
      go_wp2
      go_ret
      exact ⟨ret_i64 HF.out.symm, rfl⟩
theorem containsS_any (A : Option Addr) (n c : Nat) (l : List (List UInt8)) (s : List UInt8) (w : World) (h : ArgT w A n c l) (hn : n ≤ 1000000) :
    Calls Tryz.prog 65 #[.slice A n c, .string ⟨s.toArray⟩] w fun e w' => e = .returned (.bool (decide (0 ≤ findN l s))) ∧ w = w' := by
  have HI := Lib.hid (fun w1 (hb : w1 = w) => indexS_any A n c l s w1 (hb ▸ h) hn)
  clear h
  generalize findN l s = x at HI ⊢
  go_enter Tryz.func65, Tryz.ntmps65
  go_wp2_with (go_at_call 108; (with_reducible refine (HI.out _ rfl).mono ?_); rintro e w' ⟨rfl, rfl⟩)
  go_ret
  exact ⟨rfl, rfl⟩

end Go.Proofs.YtglkmpglpddfdaaGreatDoor
