import Derived.Test.YtpaklhifnndeoaaJ21
import Derived.Test.YtpaklhifnndeoaaJ09
import Derived.Deep.Cut
/- Of a claim's texts, joined: Tsd. No statement but in the last. -/
namespace Go.Proofs.Ytpaklhifnndeoaa
open Go.RowKit
set_option linter.unusedVariables false

set_option maxRecDepth 100000 in
set_option maxHeartbeats 16000000 in
theorem walkTreeOrders (l : List PA) (A B : Option Addr) (n c m d : Nat) (o : List UInt8) (W : World) (h : RowP W A n c l) (hb : Arg W B m d o) :
    Calls Try.prog 7 #[.slice A n c, .slice B m d] W fun e W' => e = .returned (.bool true) ∧ Below W.heap.size W W' := by
  have HAW := Lib.hid (awake15_any W)
  have HSM := Lib.hid (fun w1 (b1 : Below W.heap.size W w1) => small15_any l A n c w1 (h.below b1))
  have HR := Lib.hid h
  have HB := Lib.hid hb
  have HN := Lib.hid h.len
  have hmx : Try.prog.follows .mixedOrders = true := by kernel_rfl
  obtain ⟨sm, hsm⟩ : ∃ b, smallP l = b := ⟨_, rfl⟩
  rw [hsm] at HSM
  clear h hb
  cases sm
  · clear hsm
    go_enter Try.func7, Try.ntmps7
    go_wp2_with (first
      | (go_at_call 13; (with_reducible refine (HAW.out).mono ?_); rintro e1 w1 ⟨rfl, b1⟩; have B1 := Lib.hid b1; clear b1)
      | (go_at_call 14; (with_reducible refine (HSM.out _ B1.out).mono ?_); rintro e2 w2 ⟨rfl, rfl⟩))
    go_ret
    exact ⟨rfl, B1.out⟩
  by_cases hk100 : 200 < m
  · have hk1 : (200 : Int) < (m : Int) := by omega
    clear hsm
    go_enter Try.func7, Try.ntmps7
    go_wp2_with (first
      | (go_at_call 13; (with_reducible refine (HAW.out).mono ?_); rintro e1 w1 ⟨rfl, b1⟩; have B1 := Lib.hid b1; clear b1)
      | (go_at_call 14; (with_reducible refine (HSM.out _ B1.out).mono ?_); rintro e2 w2 ⟨rfl, rfl⟩))
    go_ret
    exact ⟨rfl, B1.out⟩
  have hk1 : ¬ (200 : Int) < (m : Int) := by omega
  have hsm2 : (∀ x ∈ l, okP15 x = true) ∧ l.length ≤ 80 := by
    unfold smallP at hsm
    simp only [Bool.and_eq_true, decide_eq_true_eq, List.all_eq_true] at hsm
    exact hsm
  have HOK := Lib.hid hsm2.1
  have hn80 : n ≤ 80 := by rw [HN.out]; exact hsm2.2
  have HEM := Lib.hid (fun w1 => trEmpty_any w1)
  clear hsm hsm2
  go_enter Try.func7, Try.ntmps7
  go_wp2_with (first
    | (go_at_call 13; (with_reducible refine (HAW.out).mono ?_); rintro e1 w1 ⟨rfl, b1⟩; have B1 := Lib.hid b1; clear b1)
    | (go_at_call 14; (with_reducible refine (HSM.out _ B1.out).mono ?_); rintro e2 w2 ⟨rfl, rfl⟩))
  have HR1 := Lib.hid (HR.out.below B1.out)
  have HO1 := Lib.hid (HB.out.below B1.out)
  clear hk1
  go_loopw [7, 8] (fun ov iv wr => ∃ i : Nat, i ≤ n ∧ iv = .int .i64 (i : Int) ∧ wr.ownsRow w1.heap.size 37 3 ov (ownP (l.take i)).length ((ownP (l.take i)).flatMap paL) ∧ Below w1.heap.size w1 wr) (fun _ iv _ => n - (intOf iv).toNat)
  case atStart => exact ⟨0, Nat.zero_le _, rfl, World.ownsRow_nil _ _ _ _, Below.refl _ _⟩
  case round =>
    obtain ⟨i, hi, rfl, ho, hb⟩ := hrel
    obtain ⟨Ao, co, rfl, hco, hcm⟩ := slice15 ho
    obtain ⟨wo, hwo⟩ : ∃ wo : World, wo = wr := ⟨_, rfl⟩
    subst hwo
    obtain ⟨q, hq⟩ : ∃ q, ownP (l.take i) = q := ⟨_, rfl⟩
    have HQ := Lib.hid hq
    have hqn : q.length ≤ 80 := by
      rw [← hq]
      have h1 := ownP_len (l.take i)
      rw [List.length_take] at h1
      omega
    rw [hq] at ho hco ⊢
    obtain ⟨no, hno⟩ : ∃ no, q.length = no := ⟨_, rfl⟩
    have HNO := Lib.hid hno
    rw [hno] at ho hco hqn ⊢
    have HO := Lib.hid ho
    have HBo := Lib.hid hb
    clear hq hno ho
    by_cases hlt : i < n
    · obtain ⟨x, hx⟩ : ∃ x, l[i]? = some x := ⟨_, List.getElem?_eq_getElem (by rw [← HN.out]; exact hlt)⟩
      obtain ⟨gl, offl, rfl, a0, a1, a2⟩ := (HR1.out.below hb).at3 hx
      obtain ⟨sk, hsk⟩ : ∃ s : ByteArray, (⟨x.k.toArray⟩ : ByteArray) = s := ⟨_, rfl⟩
      obtain ⟨bb, hbb⟩ : ∃ b : Value, byteV x.b = b := ⟨_, rfl⟩
      obtain ⟨zz, hzz⟩ : ∃ b : Int, x.z = b := ⟨_, rfl⟩
      have HSKL : Hid (sk.toList = x.k) := Lib.hid (by rw [← hsk]; exact Go.ByteArray.toList_mk _)
      have HPL : Hid (paL x = [.string sk, bb, .int .i64 zz]) := Lib.hid (by unfold paL; rw [hsk, hbb, hzz])
      rw [hsk] at a0
      rw [hzz] at a2
      have hbo : bb.oneCell' = true := by rw [← hbb]; rfl
      rw [hbb] at a1
      have HBB := Lib.hid hbo
      have HLX : Hid (∀ w6 : World, Below wo.heap.size wo w6 → w6.cell? ⟨gl, offl + i * 3, none⟩ = some (.string sk) ∧ w6.cell? ⟨gl, offl + i * 3 + 1, none⟩ = some bb ∧ w6.cell? ⟨gl, offl + i * 3 + 2, none⟩ = some (.int .i64 zz)) := Lib.hid (fun w6 hb => ⟨cell_below a0 hb, cell_below a1 hb, cell_below a2 hb⟩)
      have HST := Lib.hid (ownP_step hx)
      have i0 : (0 : Int) ≤ (i : Int) := by omega
      have i1 : (i : Int) < (n : Int) := by omega
      clear hx a0 a1 a2 hsk hbb hzz hb hbo
      go_wp2
      go_loopw [9, 10] (fun fv kv wr => ∃ k : Nat, k ≤ no ∧ kv = .int .i64 (k : Int) ∧ fv = .bool ((q.take k).all (fun y => y.k != x.k)) ∧ Below wo.heap.size wo wr) (fun _ kv _ => no - (intOf kv).toNat)
      case atStart => exact ⟨0, Nat.zero_le _, rfl, rfl, Below.refl _ _⟩
      case round =>
        obtain ⟨k, hk, rfl, rfl, hb2⟩ := hrel
        obtain ⟨f, hf⟩ : ∃ f, (q.take k).all (fun y => y.k != x.k) = f := ⟨_, rfl⟩
        have HF := Lib.hid hf
        rw [hf]
        clear hf
        by_cases hkl : k < no
        · obtain ⟨y, hy⟩ : ∃ y, q[k]? = some y := ⟨_, List.getElem?_eq_getElem (by rw [HNO.out]; exact hkl)⟩
          obtain ⟨g7, rfl, _, _, _, b0, _, _⟩ := own_at3 (ownBelow15 HO.out hb2) hy
          obtain ⟨s2, hs2⟩ : ∃ s : ByteArray, (⟨y.k.toArray⟩ : ByteArray) = s := ⟨_, rfl⟩
          rw [hs2] at b0
          obtain ⟨f2, hf2⟩ : ∃ f2, (!(s2.toList == sk.toList)) = f2 := ⟨_, rfl⟩
          have HNX : Hid ((q.take (k + 1)).all (fun y => y.k != x.k) = (f && f2)) := Lib.hid (by
            rw [List.take_add_one, hy, Option.toList_some, List.all_append, HF.out, ← hf2, HSKL.out, ← hs2, Go.ByteArray.toList_mk]
            simp [bne])
          have HY : Hid (∀ w6 : World, Below wo.heap.size wo w6 → w6.cell? ⟨g7, k * 3, none⟩ = some (.string s2)) := Lib.hid (fun w6 hb6 => by
            obtain ⟨g', hgg, _, _, _, z0, _, _⟩ := own_at3 (ownBelow15 HO.out hb6) hy
            injection hgg with hgg
            injection hgg with hgg _ _
            subst hgg
            rw [hs2] at z0
            exact z0)
          have hne : (s2.toList == sk.toList) = !f2 := by rw [← hf2]; simp
          have j0 : (0 : Int) ≤ (k : Int) := by omega
          have j1 : (k : Int) < (no : Int) := by omega
          have U0 : Below wo.heap.size wo wr.drew := hb2.drew
          clear hy b0 hs2 hb2 hf2
          cases f
          · go_wp2
            rename_i K hK
            refine wp_heldN (fun w6 : World => Below wo.heap.size wo w6) hmx ?_
            obtain ⟨Wd, hWd⟩ : ∃ X, wr.drew = X := ⟨_, rfl⟩
            rw [hWd] at U0 ⊢
            clear hWd
            refine wpAnyH_take (i := 0) (v := .bool false) (lit rfl) (by kernel_rfl) (by kernel_rfl) (by kernel_rfl) (fun _ _ _ h => h) (Or.inl ⟨by rfl, ?_⟩) U0 ?_
            · rintro w6 hb6
              go_simp
            simp only [Act.put, List.setIfInBounds_toArray, List.set_cons_zero, List.set_cons_succ]
            refine wpAnyH_take (i := 1) (v := .bool false) (lit rfl) (by kernel_rfl) (by kernel_rfl) (by kernel_rfl) (fun _ _ _ h => h) (Or.inl ⟨by rfl, ?_⟩) U0 ?_
            · rintro w6 hb6
              go_simp
            simp only [Act.put, List.setIfInBounds_toArray, List.set_cons_zero, List.set_cons_succ]
            refine wpAnyH_take (i := 2) (v := undef) (lit rfl) (by kernel_rfl) (by kernel_rfl) (by kernel_rfl) (fun _ _ _ h => h) (Or.inr ⟨by rfl, rfl⟩) U0 ?_
            simp only [Act.put, List.setIfInBounds_toArray, List.set_cons_zero, List.set_cons_succ]
            refine wpAnyH_take (i := 3) (v := undef) (lit rfl) (by kernel_rfl) (by kernel_rfl) (by kernel_rfl) (fun _ _ _ h => h) (Or.inr ⟨by rfl, rfl⟩) U0 ?_
            simp only [Act.put, List.setIfInBounds_toArray, List.set_cons_zero, List.set_cons_succ]
            refine wpAnyH_take (i := 4) (v := undef) (lit rfl) (by kernel_rfl) (by kernel_rfl) (by kernel_rfl) (fun _ _ _ h => h) (Or.inr ⟨by rfl, rfl⟩) U0 ?_
            simp only [Act.put, List.setIfInBounds_toArray, List.set_cons_zero, List.set_cons_succ]
            refine wpAnyH_take (i := 5) (v := undef) (lit rfl) (by kernel_rfl) (by kernel_rfl) (by kernel_rfl) (fun _ _ _ h => h) (Or.inr ⟨by rfl, rfl⟩) U0 ?_
            simp only [Act.put, List.setIfInBounds_toArray, List.set_cons_zero, List.set_cons_succ]
            refine wpAnyH_take (i := 6) (v := undef) (lit rfl) (by kernel_rfl) (by kernel_rfl) (by kernel_rfl) (fun _ _ _ h => h) (Or.inr ⟨by rfl, rfl⟩) U0 ?_
            simp only [Act.put, List.setIfInBounds_toArray, List.set_cons_zero, List.set_cons_succ]
            refine wpAnyH_take (i := 7) (v := undef) (lit rfl) (by kernel_rfl) (by kernel_rfl) (by kernel_rfl) (fun _ _ _ h => h) (Or.inr ⟨by rfl, rfl⟩) U0 ?_
            simp only [Act.put, List.setIfInBounds_toArray, List.set_cons_zero, List.set_cons_succ]
            refine wpAnyH_take (i := 8) (v := undef) (lit rfl) (by kernel_rfl) (by kernel_rfl) (by kernel_rfl) (fun _ _ _ h => h) (Or.inr ⟨by rfl, rfl⟩) U0 ?_
            simp only [Act.put, List.setIfInBounds_toArray, List.set_cons_zero, List.set_cons_succ]
            refine wpAnyH_take (i := 9) (v := undef) (lit rfl) (by kernel_rfl) (by kernel_rfl) (by kernel_rfl) (fun _ _ _ h => h) (Or.inr ⟨by rfl, rfl⟩) U0 ?_
            simp only [Act.put, List.setIfInBounds_toArray, List.set_cons_zero, List.set_cons_succ]
            refine wpAnyH_take (i := 10) (v := undef) (lit rfl) (by kernel_rfl) (by kernel_rfl) (by kernel_rfl) (fun _ _ _ h => h) (Or.inr ⟨by rfl, rfl⟩) U0 ?_
            simp only [Act.put, List.setIfInBounds_toArray, List.set_cons_zero, List.set_cons_succ]
            refine wpAnyH_take (i := 11) (v := undef) (lit rfl) (by kernel_rfl) (by kernel_rfl) (by kernel_rfl) (fun _ _ _ h => h) (Or.inr ⟨by rfl, rfl⟩) U0 ?_
            simp only [Act.put, List.setIfInBounds_toArray, List.set_cons_zero, List.set_cons_succ]
            refine wpAnyH_take (i := 12) (v := undef) (lit rfl) (by kernel_rfl) (by kernel_rfl) (by kernel_rfl) (fun _ _ _ h => h) (Or.inr ⟨by rfl, rfl⟩) U0 ?_
            simp only [Act.put, List.setIfInBounds_toArray, List.set_cons_zero, List.set_cons_succ]
            refine wpAnyH_take (i := 13) (v := .bool false) (lit rfl) (by kernel_rfl) (by kernel_rfl) (by kernel_rfl) (fun _ _ _ h => h) (Or.inl ⟨by rfl, ?_⟩) U0 ?_
            · rintro w6 hb6
              go_simp
            simp only [Act.put, List.setIfInBounds_toArray, List.set_cons_zero, List.set_cons_succ]
            refine wpAnyH_take (i := 14) (v := .bool false) (lit rfl) (by kernel_rfl) (by kernel_rfl) (by kernel_rfl) (fun _ _ _ h => h) (Or.inl ⟨by rfl, ?_⟩) U0 ?_
            · rintro w6 hb6
              go_simp
            simp only [Act.put, List.setIfInBounds_toArray, List.set_cons_zero, List.set_cons_succ]
            refine wpAnyH_done (by kernel_rfl) ?_ _
            refine hK _ _ ?_
            go_wp2
            go_roundw
            case rel => exact ⟨k + 1, by omega, by go_num, by rw [HNX.out]; rfl, U0⟩
            case measure => simp [intOf]; omega
          · go_wp2
            rename_i K hK
            refine wp_heldN (fun w6 : World => Below wo.heap.size wo w6) hmx ?_
            obtain ⟨Wd, hWd⟩ : ∃ X, wr.drew = X := ⟨_, rfl⟩
            rw [hWd] at U0 ⊢
            clear hWd
            refine wpAnyH_take (i := 0) (v := .bool true) (lit rfl) (by kernel_rfl) (by kernel_rfl) (by kernel_rfl) (fun _ _ _ h => h) (Or.inl ⟨by rfl, ?_⟩) U0 ?_
            · rintro w6 hb6
              go_simp
            simp only [Act.put, List.setIfInBounds_toArray, List.set_cons_zero, List.set_cons_succ]
            refine wpAnyH_take (i := 1) (v := .bool true) (lit rfl) (by kernel_rfl) (by kernel_rfl) (by kernel_rfl) (fun _ _ _ h => h) (Or.inl ⟨by rfl, ?_⟩) U0 ?_
            · rintro w6 hb6
              go_simp
            simp only [Act.put, List.setIfInBounds_toArray, List.set_cons_zero, List.set_cons_succ]
            refine wpAnyH_take (i := 2) (v := .slice (some ⟨g7, 0, none⟩) no co) (lit rfl) (by kernel_rfl) (by kernel_rfl) (by kernel_rfl) (fun _ _ _ h => h) (Or.inl ⟨by rfl, ?_⟩) U0 ?_
            · rintro w6 hb6
              go_simp
            simp only [Act.put, List.setIfInBounds_toArray, List.set_cons_zero, List.set_cons_succ]
            refine wpAnyH_take (i := 3) (v := .int .i64 (k : Int)) (lit rfl) (by kernel_rfl) (by kernel_rfl) (by kernel_rfl) (fun _ _ _ h => h) (Or.inl ⟨by rfl, ?_⟩) U0 ?_
            · rintro w6 hb6
              go_simp
            simp only [Act.put, List.setIfInBounds_toArray, List.set_cons_zero, List.set_cons_succ]
            refine wpAnyH_take (i := 4) (v := .pointer (some ⟨g7, k * 3, none⟩)) (lit rfl) (by kernel_rfl) (by kernel_rfl) (by kernel_rfl) (fun _ _ _ h => h) (Or.inl ⟨by rfl, ?_⟩) U0 ?_
            · rintro w6 hb6
              go_simp
            simp only [Act.put, List.setIfInBounds_toArray, List.set_cons_zero, List.set_cons_succ]
            refine wpAnyH_take (i := 5) (v := .pointer (some ⟨g7, k * 3, none⟩)) (lit rfl) (by kernel_rfl) (by kernel_rfl) (by kernel_rfl) (fun _ _ _ h => h) (Or.inl ⟨by rfl, ?_⟩) U0 ?_
            · rintro w6 hb6
              go_simp
            simp only [Act.put, List.setIfInBounds_toArray, List.set_cons_zero, List.set_cons_succ]
            refine wpAnyH_take (i := 6) (v := .string s2) (lit rfl) (by kernel_rfl) (by kernel_rfl) (by kernel_rfl) (fun _ _ _ h => h) (Or.inl ⟨by rfl, ?_⟩) U0 ?_
            · rintro w6 hb6
              have y6 := HY.out w6 hb6
              go_simp
            simp only [Act.put, List.setIfInBounds_toArray, List.set_cons_zero, List.set_cons_succ]
            refine wpAnyH_take (i := 7) (v := .slice (some ⟨gl, offl, none⟩) n c) (lit rfl) (by kernel_rfl) (by kernel_rfl) (by kernel_rfl) (fun _ _ _ h => h) (Or.inl ⟨by rfl, ?_⟩) U0 ?_
            · rintro w6 hb6
              go_simp
            simp only [Act.put, List.setIfInBounds_toArray, List.set_cons_zero, List.set_cons_succ]
            refine wpAnyH_take (i := 8) (v := .int .i64 (i : Int)) (lit rfl) (by kernel_rfl) (by kernel_rfl) (by kernel_rfl) (fun _ _ _ h => h) (Or.inl ⟨by rfl, ?_⟩) U0 ?_
            · rintro w6 hb6
              go_simp
            simp only [Act.put, List.setIfInBounds_toArray, List.set_cons_zero, List.set_cons_succ]
            refine wpAnyH_take (i := 9) (v := .pointer (some ⟨gl, offl + i * 3, none⟩)) (lit rfl) (by kernel_rfl) (by kernel_rfl) (by kernel_rfl) (fun _ _ _ h => h) (Or.inl ⟨by rfl, ?_⟩) U0 ?_
            · rintro w6 hb6
              go_simp
            simp only [Act.put, List.setIfInBounds_toArray, List.set_cons_zero, List.set_cons_succ]
            refine wpAnyH_take (i := 10) (v := .pointer (some ⟨gl, offl + i * 3, none⟩)) (lit rfl) (by kernel_rfl) (by kernel_rfl) (by kernel_rfl) (fun _ _ _ h => h) (Or.inl ⟨by rfl, ?_⟩) U0 ?_
            · rintro w6 hb6
              go_simp
            simp only [Act.put, List.setIfInBounds_toArray, List.set_cons_zero, List.set_cons_succ]
            refine wpAnyH_take (i := 11) (v := .string sk) (lit rfl) (by kernel_rfl) (by kernel_rfl) (by kernel_rfl) (fun _ _ _ h => h) (Or.inl ⟨by rfl, ?_⟩) U0 ?_
            · rintro w6 hb6
              have y6 := (HLX.out w6 hb6).1
              go_simp
            simp only [Act.put, List.setIfInBounds_toArray, List.set_cons_zero, List.set_cons_succ]
            refine wpAnyH_take (i := 12) (v := .bool f2) (lit rfl) (by kernel_rfl) (by kernel_rfl) (by kernel_rfl) (fun _ _ _ h => h) (Or.inl ⟨by rfl, ?_⟩) U0 ?_
            · rintro w6 hb6
              go_simp
            simp only [Act.put, List.setIfInBounds_toArray, List.set_cons_zero, List.set_cons_succ]
            refine wpAnyH_take (i := 13) (v := .bool f2) (lit rfl) (by kernel_rfl) (by kernel_rfl) (by kernel_rfl) (fun _ _ _ h => h) (Or.inl ⟨by rfl, ?_⟩) U0 ?_
            · rintro w6 hb6
              go_simp
            simp only [Act.put, List.setIfInBounds_toArray, List.set_cons_zero, List.set_cons_succ]
            refine wpAnyH_take (i := 14) (v := .bool f2) (lit rfl) (by kernel_rfl) (by kernel_rfl) (by kernel_rfl) (fun _ _ _ h => h) (Or.inl ⟨by rfl, ?_⟩) U0 ?_
            · rintro w6 hb6
              go_simp
            simp only [Act.put, List.setIfInBounds_toArray, List.set_cons_zero, List.set_cons_succ]
            refine wpAnyH_done (by kernel_rfl) ?_ _
            refine hK _ _ ?_
            go_wp2
            go_roundw
            case rel => exact ⟨k + 1, by omega, by go_num, by rw [HNX.out]; rfl, U0⟩
            case measure => simp [intOf]; omega
        · have hkn : k = no := by omega
          have htk : q.take k = q := List.take_of_length_le (by rw [hkn, HNO.out]; exact Nat.le_refl _)
          have HF2 : Hid (q.all (fun y => y.k != x.k) = f) := Lib.hid (by rw [← HF.out, htk])
          have j1 : ¬ (k : Int) < (no : Int) := by omega
          have HB2 := Lib.hid hb2
          clear hkn htk hb2
          cases f
          · have HE : Hid (ownP (l.take (i + 1)) = q) := Lib.hid (by rw [HST.out, HQ.out]; unfold ownF; rw [HF2.out]; rfl)
            go_wp2
            go_roundw
            case rel => exact ⟨i + 1, by omega, by go_num, by rw [HE.out, HNO.out]; exact ownBelow15 HO.out HB2.out, below_step HBo.out HB2.out⟩
            case measure => simp [intOf]; omega
          · have HE : Hid (ownP (l.take (i + 1)) = q ++ [x]) := Lib.hid (by rw [HST.out, HQ.out]; unfold ownF; rw [HF2.out]; rfl)
            obtain ⟨ti, hti, hz0, hz1, hz2t⟩ := info_parts p15info
            obtain ⟨y0, y1, y2⟩ := HLX.out wr HB2.out
            have hO := ownBelow15 HO.out HB2.out
            have hsz : w1.heap.size ≤ wr.heap.size := by have h1 := HBo.out.size; have h2 := HB2.out.size; omega
            have HOr := Lib.hid hO
            have HSZ := Lib.hid hsz
            clear hO hsz
            go_wp2_with (at_builtin; (refine wpList_append_own _ rfl _ _ 22 rfl w1.heap.size 37 ti _ 3 32 Try.underlying22 hti hz0 hz1 hz2t rfl (by decide) _ no _ rfl (HOr.out.alloc (.cells #[.string sk, bb, .int .i64 zz] 37)) ⟨wr.heap.size, 0, none⟩ 1 1 [.string sk, bb, .int .i64 zz] rfl rfl (fun j u hj => (by rw [add_plain, (Has.made wr 37 #[.string sk, bb, .int .i64 zz]).cell, Nat.zero_add]; simpa using hj)) (by have hbo := HBB.out; intro u hu; simp at hu; rcases hu with rfl | rfl | rfl <;> first | rfl | exact hbo) (by unfold maxLen; omega) (by omega) (Nat.le_trans HSZ.out (by simp)) ?_; intro v8 w8 h7 h8 hnil; clear hnil; have G8 : Hid (Below w1.heap.size w1 w8) := Lib.hid (below_own14 (below_alloc' (below_step HBo.out HB2.out) (.cells #[.string sk, bb, .int .i64 zz] 37)) h8 (HOr.out.alloc _) (Nat.le_trans HSZ.out (by simp))); have O8 := Lib.hid h7; clear h7 h8))
            go_roundw
            case rel => exact ⟨i + 1, by omega, by go_num, by
              rw [HE.out, List.length_append, HNO.out, List.flatMap_append]
              have e1 : [x].flatMap paL = paL x := by simp
              rw [e1, HPL.out]
              exact O8.out, G8.out⟩
            case measure => simp [intOf]; omega
    · have hin : i = n := by omega
      have htk : l.take i = l := List.take_of_length_le (by rw [hin, HN.out]; exact Nat.le_refl _)
      have HQL : Hid (ownP l = q) := Lib.hid (by rw [← HQ.out, htk])
      have HQOK : Hid (∀ x ∈ q, okP15 x = true) := Lib.hid (fun x hx => HOK.out x (ownP_mem (by rw [HQL.out]; exact hx)))
      have HND : Hid ((q.map (fun y => y.k)).Nodup) := Lib.hid (HQL.out ▸ ownP_nodup l)
      have i1 : ¬ (i : Int) < (n : Int) := by omega
      clear htk hin hb
      go_wp2_with ((go_at_call 15; (with_reducible refine (HEM.out _).mono ?_); rintro e3 w3 ⟨⟨p1, lf1, kA1, kn1, kc1, vA1, vn1, vc1, dA1, dn1, dc1⟩, rfl, r3, b3⟩; unfold ndV; simp only; have R3 := Lib.hid r3; have B3 := Lib.hid b3; clear r3 b3))
      obtain ⟨W4, hW4⟩ : ∃ x, w3.alloc (.cells #[.int .i64 p1, .bool lf1, .slice kA1 kn1 kc1, .slice vA1 vn1 vc1, .slice dA1 dn1 dc1] 29) = x := ⟨_, rfl⟩
      have X4 := BoxM.new (z := ⟨p1, lf1, kA1, kn1, kc1, vA1, vn1, vc1, dA1, dn1, dc1⟩) R3.out hW4.symm B3.out.size
      have c4 : Below wo.heap.size wo W4 := below_step B3.out (hW4 ▸ (Below.refl _ w3).alloc (Nat.le_refl _) _)
      rw [hW4]
      obtain ⟨Pa, hPa⟩ : ∃ P, w3.heap.size = P := ⟨_, rfl⟩
      try rw [hPa]
      rw [hPa] at X4
      have HX4 := Lib.hid X4
      have HC4 := Lib.hid c4
      clear X4 c4 hPa hW4 R3 B3 i1
      clear w3
      go_loopw [12] (fun iv wr => ∃ (k : Nat) (z : NDV), k ≤ no ∧ iv = .int .i64 (k : Int) ∧ BoxM wo.heap.size wr Pa (bldT (q.take k)) z ∧ Below wo.heap.size wo wr) (fun iv _ => no - (intOf iv).toNat)
      case atStart => exact ⟨0, _, Nat.zero_le _, rfl, HX4.out, HC4.out⟩
      case round =>
        obtain ⟨k, ⟨p1, lf1, kA1, kn1, kc1, vA1, vn1, vc1, dA1, dn1, dc1⟩, hk, rfl, hM, hb⟩ := hrel
        by_cases hkl : k < no
        · obtain ⟨x, hx⟩ : ∃ x, q[k]? = some x := ⟨_, List.getElem?_eq_getElem (by rw [HNO.out]; exact hkl)⟩
          have hox := cP_ok (HQOK.out x (List.mem_of_getElem? hx))
          have hgd := gd_bld (l := q.take k) (fun y hy => HQOK.out y (List.mem_of_mem_take hy))
          obtain ⟨g7, rfl, hg7, hg7w, _, a0, a1, a2⟩ := own_at3 HO.out hx
          have hX7 := hM.b
          have hgl : g7 < wo.heap.size := hg7w
          have hPB := hM.hP
          obtain ⟨sk, hsk⟩ : ∃ s : ByteArray, (⟨x.k.toArray⟩ : ByteArray) = s := ⟨_, rfl⟩
          obtain ⟨sv, hsv⟩ : ∃ s : ByteArray, (⟨(valP x).toArray⟩ : ByteArray) = s := ⟨_, rfl⟩
          obtain ⟨bb, hbb⟩ : ∃ b : Nat, x.b.toNat = b := ⟨_, rfl⟩
          obtain ⟨zz, hzz⟩ : ∃ b : Int, x.z = b := ⟨_, rfl⟩
          have HVA := Lib.hid (fun w1 => value15_any x hox.2 w1)
          unfold paV byteV at HVA
          unfold byteV at a1
          rw [hsk] at a0
          rw [hbb] at a1
          rw [hzz] at a2
          rw [hsk, hsv, hbb, hzz] at HVA
          have HPU := Lib.hid (fun (w' : World) (hb : Below wr.heap.size wr w') => hgd.1.put (cP x) hox.1 rfl _ _ w' (hM.rt.stay hb))
          have e1 : (⟨(cP x).k.toArray⟩ : ByteArray) = sk := hsk
          have e2 : (⟨(cP x).d.toArray⟩ : ByteArray) = sv := hsv
          rw [e1, e2] at HPU
          obtain ⟨tp, htp⟩ : ∃ t', putTop (cP x) (bldT (q.take k)) = t' := ⟨_, rfl⟩
          have HTP : Hid (bldT (q.take (k + 1)) = tp) := Lib.hid (by rw [bld_step hx, htp])
          rw [htp] at HPU
          unfold ndV at HPU
          simp only at HPU
          have HLX : Hid (∀ w6 : World, wr.grownBy w6 (some Pa) → w6.cell? ⟨g7, k * 3, none⟩ = some (.string sk) ∧ w6.cell? ⟨g7, k * 3 + 1, none⟩ = some (.int .u8 (bb : Int)) ∧ w6.cell? ⟨g7, k * 3 + 2, none⟩ = some (.int .i64 zz)) := Lib.hid (fun w6 hg => by
            have hq : w6.heap[g7]? = wo.heap[g7]? := (hg.block g7 (by have := hb.size; omega) (fun e => by injection e with e; omega)).trans (hb.block g7 hgl)
            exact ⟨(cell_same (p := ⟨g7, k * 3, none⟩) hq).trans a0, (cell_same (p := ⟨g7, k * 3 + 1, none⟩) hq).trans a1, (cell_same (p := ⟨g7, k * 3 + 2, none⟩) hq).trans a2⟩)
          have HCB : Hid (∀ w' : World, Below wr.heap.size wr w' → w'.cell? ⟨Pa, 0, none⟩ = some (.int .i64 p1) ∧ w'.cell? ⟨Pa, 1, none⟩ = some (.bool lf1) ∧ w'.cell? ⟨Pa, 2, none⟩ = some (.slice kA1 kn1 kc1) ∧ w'.cell? ⟨Pa, 3, none⟩ = some (.slice vA1 vn1 vc1) ∧ w'.cell? ⟨Pa, 4, none⟩ = some (.slice dA1 dn1 dc1)) := Lib.hid (fun w' hb => by
            have z := hX7.below hb hX7.lt
            exact ⟨z.cell 0, z.cell 1, z.cell 2, z.cell 3, z.cell 4⟩)
          have HX7 := Lib.hid hX7
          have HM := Lib.hid hM
          have HBr := Lib.hid hb
          have HPB := Lib.hid hPB
          have i1 : (k : Int) < (no : Int) := by omega
          have i0 : (0 : Int) ≤ (k : Int) := by omega
          clear hx hox hgd a0 a1 a2 hsk hsv hbb hzz e1 e2 htp hM hb hX7 hPB
          have hC0 := HCB.out wr.drew (Below.refl _ wr).drew
          have hS0 : wr.grownBy wr.drew (some Pa) := ⟨rfl, rfl, rfl, Nat.le_refl _, fun _ _ _ => rfl⟩
          have T0 : Below wr.heap.size wr wr.drew := (Below.refl _ wr).drew
          go_wp2
          rename_i K hK
          refine wp_heldJQ (fun w' : World => w'.cell? ⟨Pa, 0, none⟩ = some (.int .i64 p1) ∧ w'.cell? ⟨Pa, 1, none⟩ = some (.bool lf1) ∧ w'.cell? ⟨Pa, 2, none⟩ = some (.slice kA1 kn1 kc1) ∧ w'.cell? ⟨Pa, 3, none⟩ = some (.slice vA1 vn1 vc1) ∧ w'.cell? ⟨Pa, 4, none⟩ = some (.slice dA1 dn1 dc1)) (fun w' : World => wr.grownBy w' (some Pa)) 12 hmx ?_
          refine wpAnyJ_take (i := 0) (v := .agg #[.int .i64 p1, .bool lf1, .slice kA1 kn1 kc1, .slice vA1 vn1 vc1, .slice dA1 dn1 dc1]) rfl (by kernel_rfl) (by kernel_rfl) (by kernel_rfl) (by kernel_rfl) (by decide) (by kernel_rfl) (fun _ _ _ h => h) (Or.inl ⟨by rfl, ?_⟩) hC0 hS0 ?_
          · rintro w6 ⟨c0, c1, c2, c3, c4⟩
            go_simp
          simp only [Act.put, List.setIfInBounds_toArray, List.set_cons_zero, List.set_cons_succ, List.getElem_toArray, List.getElem_cons_zero]
          refine wpAnyJ_takeS (i := 1) (v := .slice (some ⟨g7, 0, none⟩) no co) rfl (by kernel_rfl) (by kernel_rfl) (by kernel_rfl) (by decide) (fun _ _ _ h => h) (Or.inl ⟨by rfl, ?_⟩) (.inr hC0) hS0 ?_
          · rintro w6 hb6
            go_simp
          simp only [Act.put, List.setIfInBounds_toArray, List.set_cons_zero, List.set_cons_succ, List.getElem_toArray, List.getElem_cons_zero, List.getElem_cons_succ]
          refine wpAnyJ_takeS (i := 2) (v := .int .i64 (k : Int)) rfl (by kernel_rfl) (by kernel_rfl) (by kernel_rfl) (by decide) (fun _ _ _ h => h) (Or.inl ⟨by rfl, ?_⟩) (.inr hC0) hS0 ?_
          · rintro w6 hb6
            go_simp
          simp only [Act.put, List.setIfInBounds_toArray, List.set_cons_zero, List.set_cons_succ, List.getElem_toArray, List.getElem_cons_zero, List.getElem_cons_succ]
          refine wpAnyJ_takeS (i := 3) (v := .pointer (some ⟨g7, k * 3, none⟩)) rfl (by kernel_rfl) (by kernel_rfl) (by kernel_rfl) (by decide) (fun _ _ _ h => h) (Or.inl ⟨by rfl, ?_⟩) (.inr hC0) hS0 ?_
          · rintro w6 hb6
            go_simp
          simp only [Act.put, List.setIfInBounds_toArray, List.set_cons_zero, List.set_cons_succ, List.getElem_toArray, List.getElem_cons_zero, List.getElem_cons_succ]
          refine wpAnyJ_takeS (i := 4) (v := .pointer (some ⟨g7, k * 3, none⟩)) rfl (by kernel_rfl) (by kernel_rfl) (by kernel_rfl) (by decide) (fun _ _ _ h => h) (Or.inl ⟨by rfl, ?_⟩) (.inr hC0) hS0 ?_
          · rintro w6 hb6
            go_simp
          simp only [Act.put, List.setIfInBounds_toArray, List.set_cons_zero, List.set_cons_succ, List.getElem_toArray, List.getElem_cons_zero, List.getElem_cons_succ]
          refine wpAnyJ_takeS (i := 5) (v := .string sk) rfl (by kernel_rfl) (by kernel_rfl) (by kernel_rfl) (by decide) (fun _ _ _ h => h) (Or.inl ⟨by rfl, ?_⟩) (.inr hC0) hS0 ?_
          · rintro w6 hb6
            obtain ⟨y60, y61, y62⟩ := HLX.out w6 hb6
            go_simp
          simp only [Act.put, List.setIfInBounds_toArray, List.set_cons_zero, List.set_cons_succ, List.getElem_toArray, List.getElem_cons_zero, List.getElem_cons_succ]
          refine wpAnyJ_takeS (i := 6) (v := .slice (some ⟨g7, 0, none⟩) no co) rfl (by kernel_rfl) (by kernel_rfl) (by kernel_rfl) (by decide) (fun _ _ _ h => h) (Or.inl ⟨by rfl, ?_⟩) (.inr hC0) hS0 ?_
          · rintro w6 hb6
            go_simp
          simp only [Act.put, List.setIfInBounds_toArray, List.set_cons_zero, List.set_cons_succ, List.getElem_toArray, List.getElem_cons_zero, List.getElem_cons_succ]
          refine wpAnyJ_takeS (i := 7) (v := .int .i64 (k : Int)) rfl (by kernel_rfl) (by kernel_rfl) (by kernel_rfl) (by decide) (fun _ _ _ h => h) (Or.inl ⟨by rfl, ?_⟩) (.inr hC0) hS0 ?_
          · rintro w6 hb6
            go_simp
          simp only [Act.put, List.setIfInBounds_toArray, List.set_cons_zero, List.set_cons_succ, List.getElem_toArray, List.getElem_cons_zero, List.getElem_cons_succ]
          refine wpAnyJ_takeS (i := 8) (v := .pointer (some ⟨g7, k * 3, none⟩)) rfl (by kernel_rfl) (by kernel_rfl) (by kernel_rfl) (by decide) (fun _ _ _ h => h) (Or.inl ⟨by rfl, ?_⟩) (.inr hC0) hS0 ?_
          · rintro w6 hb6
            go_simp
          simp only [Act.put, List.setIfInBounds_toArray, List.set_cons_zero, List.set_cons_succ, List.getElem_toArray, List.getElem_cons_zero, List.getElem_cons_succ]
          refine wpAnyJ_takeS (i := 9) (v := .agg #[.string sk, .int .u8 (bb : Int), .int .i64 zz]) rfl (by kernel_rfl) (by kernel_rfl) (by kernel_rfl) (by decide) (fun _ _ _ h => h) (Or.inl ⟨by rfl, ?_⟩) (.inr hC0) hS0 ?_
          · rintro w6 hb6
            obtain ⟨y60, y61, y62⟩ := HLX.out w6 hb6
            go_simp
          simp only [Act.put, List.setIfInBounds_toArray, List.set_cons_zero, List.set_cons_succ, List.getElem_toArray, List.getElem_cons_zero, List.getElem_cons_succ]
          refine wpAnyJ_one (i := 10) (by kernel_rfl) rfl (fun K5 hK5 => ?_)
          go_simp
          go_at_call 18
          (with_reducible refine (HVA.out _).mono ?_)
          rintro e2 w2 ⟨rfl, b2⟩
          have T2 : Below wr.heap.size wr w2 := below_step T0 b2
          have hC2 := HCB.out w2 T2
          have hS2 : wr.grownBy w2 (some Pa) := only_of_below T2 (Nat.le_refl _)
          clear b2
          go_simp
          refine hK5.out _ _ (.inr hC2) hS2 ?_
          clear hK5 K5
          refine wpAnyJ_one (i := 11) (by kernel_rfl) rfl (fun K5 hK5 => ?_)
          go_simp
          go_at_call 17
          (with_reducible refine (HPU.out _ T2).mono ?_)
          rintro e3 w3 ⟨⟨p3, lf3, kA3, kn3, kc3, vA3, vn3, vc3, dA3, dn3, dc3⟩, rfl, r3, b3⟩
          unfold ndV
          simp only
          have T3 : Below wr.heap.size wr w3 := below_step T2 b3
          have R3 := Lib.hid r3
          have HT3 := Lib.hid T3
          have H23 : Hid (wr.heap.size ≤ w2.heap.size) := Lib.hid T2.size
          have hC3 := HCB.out w3 T3
          have hS3 : wr.grownBy w3 (some Pa) := only_of_below T3 (Nat.le_refl _)
          clear b3 r3
          go_simp
          refine hK5.out _ _ (.inr hC3) hS3 ?_
          clear hK5 K5
          refine wpAnyJ_one (i := 12) (by kernel_rfl) rfl (fun K5 hK5 => ?_)
          go_simp
          have Z7 := HX7.out.below HT3.out HX7.out.lt
          have f0 := Z7.free 0
          have f1 := Z7.free 1
          have f2 := Z7.free 2
          have f3 := Z7.free 3
          have f4 := Z7.free 4
          obtain ⟨q0, q1, q2, q3, q4⟩ := hC3
          have hS4 := only_store (only_store (only_store (only_store (only_store hS3 0 (.int .i64 p3)) 1 (.bool lf3)) 2 (.slice kA3 kn3 kc3)) 3 (.slice vA3 vn3 vc3)) 4 (.slice dA3 dn3 dc3)
          go_simp
          refine hK5.out _ _ (.inl (by kernel_rfl)) hS4 ?_
          clear hK5 K5
          refine wpAnyJ_done (by kernel_rfl) ?_ _
          refine hK _ _ ?_
          have hMp := HM.out.put HT3.out R3.out H23.out
          have hBp := below_st5 (below_step HBr.out HT3.out) HPB.out (.int .i64 p3) (.bool lf3) (.slice kA3 kn3 kc3) (.slice vA3 vn3 vc3) (.slice dA3 dn3 dc3)
          unfold st5 at hMp hBp
          simp only at hMp
          have HMP := Lib.hid hMp
          have HBP := Lib.hid hBp
          clear hMp hBp hS4 Z7 f0 f1 f2 f3 f4 q0 q1 q2 q3 q4 hS3 hS2 hC2 T2 T3 T0
          go_wp2
          go_roundw
          case rel => exact ⟨k + 1, ⟨p3, lf3, kA3, kn3, kc3, vA3, vn3, vc3, dA3, dn3, dc3⟩, by omega, by go_num, by rw [HTP.out]; exact HMP.out, HBP.out⟩
          case measure => simp [intOf]; omega
        · have hkn : k = no := by omega
          have htk : q.take k = q := List.take_of_length_le (by rw [hkn, HNO.out]; exact Nat.le_refl _)
          rw [htk] at hM
          obtain ⟨ta, hta⟩ : ∃ t, bldT q = t := ⟨_, rfl⟩
          rw [hta] at hM
          have HTA := Lib.hid hta
          have i1 : ¬ (k : Int) < (no : Int) := by omega
          obtain ⟨wa, hwa⟩ : ∃ wa : World, wa = wr := ⟨_, rfl⟩
          subst hwa
          have HMA := Lib.hid hM
          have HOA := Lib.hid (ownBelow15 HO.out hb)
          have HBA : Hid (Below w1.heap.size w1 wa) := Lib.hid (below_step HBo.out hb)
          have HWO : Hid (w1.heap.size ≤ wo.heap.size) := Lib.hid HBo.out.size
          clear hkn htk hta hM hb
          go_wp2
          go_loopw [13] (fun iv wr => ∃ (i : Nat) (q' : List PA), i ≤ m + 1 ∧ iv = .int .i64 (i : Int) ∧ q'.Perm q ∧ wr.ownsRow w1.heap.size 37 3 (.slice Ao no co) no (q'.flatMap paL) ∧ BoxM wo.heap.size wr Pa ta ⟨p1, lf1, kA1, kn1, kc1, vA1, vn1, vc1, dA1, dn1, dc1⟩ ∧ Below w1.heap.size w1 wr) (fun iv _ => m + 2 - (intOf iv).toNat)
          case atStart => exact ⟨0, q, Nat.zero_le _, rfl, List.Perm.refl _, HOA.out, HMA.out, HBA.out⟩
          case round =>
            obtain ⟨i2, q', hi2, rfl, hpm, hoq, hM, hb⟩ := hrel
            have hlq : q'.length = no := by rw [hpm.length_eq, HNO.out]
            have HPM := Lib.hid hpm
            have HLQ := Lib.hid hlq
            have HOQ := Lib.hid hoq
            have HMa := Lib.hid hM
            have HB2 := Lib.hid hb
            obtain ⟨j, hj⟩ : ∃ j, i2 + 1 = j := ⟨_, rfl⟩
            have HJ := Lib.hid hj
            have hjw : IntKind.i64.wrap ((i2 : Int) + 1) = (j : Int) := by rw [IntWalk.i64_in _ (by omega)]; omega
            have i0 : (0 : Int) ≤ (i2 : Int) := by omega
            have j0 : (0 : Int) ≤ (j : Int) := by omega
            by_cases hjm : j < m
            · by_cases hn0 : 0 < no
              · have hln : m = o.length := HO1.out.len
                obtain ⟨gb, ob, rfl, hrd⟩ := (HO1.out.below hb).reads (by rw [List.length_map]; omega)
                obtain ⟨b1, hb1⟩ : ∃ b : Nat, (o[i2]'(by omega)).toNat = b := ⟨_, rfl⟩
                obtain ⟨b2, hb2⟩ : ∃ b : Nat, (o[j]'(by omega)).toNat = b := ⟨_, rfl⟩
                have c1 : wr.cell? ⟨gb, ob + i2, none⟩ = some (.int .u8 (b1 : Int)) := hrd i2 _ (by rw [List.getElem?_map, List.getElem?_eq_getElem (by omega), Option.map_some]; unfold byteV; rw [hb1])
                have c2 : wr.cell? ⟨gb, ob + j, none⟩ = some (.int .u8 (b2 : Int)) := hrd j _ (by rw [List.getElem?_map, List.getElem?_eq_getElem (by omega), Option.map_some]; unfold byteV; rw [hb2])
                have hb1' : b1 < 256 := by rw [← hb1]; exact UInt8.toNat_lt _
                have hb2' : b2 < 256 := by rw [← hb2]; exact UInt8.toNat_lt _
                obtain ⟨x, hx⟩ : ∃ x, b1 % no = x := ⟨_, rfl⟩
                obtain ⟨y, hy⟩ : ∃ y, b2 % no = y := ⟨_, rfl⟩
                have hrx : ((b1 : Int)).tmod (no : Int) = (x : Int) := by rw [Int.tmod_eq_emod_of_nonneg (by omega), ← hx]; exact (Int.natCast_emod _ _).symm
                have hry : ((b2 : Int)).tmod (no : Int) = (y : Int) := by rw [Int.tmod_eq_emod_of_nonneg (by omega), ← hy]; exact (Int.natCast_emod _ _).symm
                have hxn : x < no := by rw [← hx]; exact Nat.mod_lt _ hn0
                have hyn : y < no := by rw [← hy]; exact Nat.mod_lt _ hn0
                obtain ⟨ax, hax⟩ : ∃ a, q'[x]? = some a := ⟨_, List.getElem?_eq_getElem (by rw [hlq]; exact hxn)⟩
                obtain ⟨ay, hay⟩ : ∃ a, q'[y]? = some a := ⟨_, List.getElem?_eq_getElem (by rw [hlq]; exact hyn)⟩
                obtain ⟨g7, rfl, hg7, hg7w, hfr, x0, x1, x2⟩ := own_at3 hoq hax
                obtain ⟨g', hgg, _, _, _, y0, y1, y2⟩ := own_at3 hoq hay
                injection hgg with hgg
                injection hgg with hgg _ _
                subst hgg
                obtain ⟨s1, hs1⟩ : ∃ s : ByteArray, (⟨ax.k.toArray⟩ : ByteArray) = s := ⟨_, rfl⟩
                obtain ⟨s2, hs2⟩ : ∃ s : ByteArray, (⟨ay.k.toArray⟩ : ByteArray) = s := ⟨_, rfl⟩
                obtain ⟨f1, hf1⟩ : ∃ s : Nat, ax.b.toNat = s := ⟨_, rfl⟩
                obtain ⟨f2, hf2⟩ : ∃ s : Nat, ay.b.toNat = s := ⟨_, rfl⟩
                obtain ⟨z1, hz1⟩ : ∃ s : Int, ax.z = s := ⟨_, rfl⟩
                obtain ⟨z2, hz2⟩ : ∃ s : Int, ay.z = s := ⟨_, rfl⟩
                have HS1 := Lib.hid hs1
                have HS2 := Lib.hid hs2
                have HF1 := Lib.hid hf1
                have HF2 := Lib.hid hf2
                have HZ1 := Lib.hid hz1
                have HZ2 := Lib.hid hz2
                unfold byteV at x1 y1
                rw [hs1] at x0
                rw [hs2] at y0
                rw [hf1] at x1
                rw [hf2] at y1
                rw [hz1] at x2
                rw [hz2] at y2
                have HAX := Lib.hid hax
                have HAY := Lib.hid hay
                have HFR := Lib.hid hfr
                have HX := Lib.hid x0
                have HY0 := Lib.hid y0
                have HY1 := Lib.hid y1
                have HY2 := Lib.hid y2
                have HG7 := Lib.hid hg7
                have HGL := Lib.hid hg7w
                have b10 : (0 : Int) ≤ (b1 : Int) := by omega
                have b20 : (0 : Int) ≤ (b2 : Int) := by omega
                have n0i : (0 : Int) < (no : Int) := by omega
                have j1 : (j : Int) < (m : Int) := by omega
                have i1 : (i2 : Int) < (m : Int) := by omega
                have x00 : (0 : Int) ≤ (x : Int) := by omega
                have x01 : (x : Int) < (no : Int) := by omega
                have y00 : (0 : Int) ≤ (y : Int) := by omega
                have y01 : (y : Int) < (no : Int) := by omega
                have hne0 : (no : Int) ≠ 0 := by omega
                clear hj hpm hlq hoq hM hb hrd hb1 hb2 hx hy hs1 hs2 hf1 hf2 hz1 hz2 hax hay hfr hln hg7 hg7w
                go_upto_region 29 with (fail)
                obtain ⟨wA, hwA⟩ : ∃ X, wr.alloc (.cells #[.string s1, .int .u8 (f1 : Int), .int .i64 z1] 37) = X := ⟨_, rfl⟩
                have BA : Below wr.heap.size wr wA := hwA ▸ (Below.refl _ wr).alloc (Nat.le_refl _) _
                have BX : Has wA wr.heap.size 37 #[.string s1, .int .u8 (f1 : Int), .int .i64 z1] := hwA ▸ Has.made wr 37 _
                rw [hwA]
                obtain ⟨P16, hP16⟩ : ∃ P, wr.heap.size = P := ⟨_, rfl⟩
                rw [hP16] at BX
                try rw [hP16]
                have HP16 := Lib.hid hP16
                have hOQA := ownBelow15 HOQ.out BA
                have HBA2 := Lib.hid BA
                obtain ⟨g', hgg, _, _, hfr, x0, x1, x2⟩ := own_at3 hOQA HAX.out
                injection hgg with hgg
                injection hgg with hgg _ _
                subst hgg
                unfold byteV at x1
                rw [HS1.out] at x0
                rw [HF1.out] at x1
                rw [HZ1.out] at x2
                obtain ⟨g', hgg, _, _, _, y0, y1, y2⟩ := own_at3 hOQA HAY.out
                injection hgg with hgg
                injection hgg with hgg _ _
                subst hgg
                unfold byteV at y1
                rw [HS2.out] at y0
                rw [HF2.out] at y1
                rw [HZ2.out] at y2
                have fr0 := hfr (x * 3)
                have fr1 := hfr (x * 3 + 1)
                have fr2 := hfr (x * 3 + 2)
                have HOQA := Lib.hid hOQA
                have HBX := Lib.hid BX
                clear hOQA BX hwA hP16 BA hfr
                go_upto_region 30 with (fail)
                obtain ⟨hOB, hgB⟩ := own_put3P HOQA.out HAX.out ay
                have bB : Below w1.heap.size w1 (sta3 wA g7 (x * 3) (.string ⟨ay.k.toArray⟩) (byteV ay.b) (.int .i64 ay.z)) := below_sta3 (below_step HB2.out HBA2.out) HG7.out _ _ _
                unfold byteV at hOB hgB bB
                rw [HS2.out, HF2.out, HZ2.out] at hOB hgB bB
                obtain ⟨wB, hwB⟩ : ∃ X, sta3 wA g7 (x * 3) (.string s2) (.int .u8 (f2 : Int)) (.int .i64 z2) = X := ⟨_, rfl⟩
                rw [hwB] at hOB hgB bB
                have hwB2 : ((wA.setCell ⟨g7, x * 3, none⟩ (.string s2)).setCell ⟨g7, x * 3 + 1, none⟩ (.int .u8 (f2 : Int))).setCell ⟨g7, x * 3 + 2, none⟩ (.int .i64 z2) = wB := hwB
                rw [hwB2]
                have hXB := HBX.out.grown hgB (by intro e; injection e with e; have h1 := HP16.out; have h2 := HGL.out; omega)
                have p0 := hXB.cell 0
                have p1' := hXB.cell 1
                have p2' := hXB.cell 2
                have hay2 : (q'.set x ay)[y]? = some ay := set_at HAX.out HAY.out
                obtain ⟨g', hgg, _, _, hfr, v0, v1, v2⟩ := own_at3 hOB hay2
                injection hgg with hgg
                injection hgg with hgg _ _
                subst hgg
                have fy0 := hfr (y * 3)
                have fy1 := hfr (y * 3 + 1)
                have fy2 := hfr (y * 3 + 2)
                have HAY2 := Lib.hid hay2
                have HOB := Lib.hid hOB
                have HGB := Lib.hid hgB
                have HBB := Lib.hid bB
                clear hOB hgB bB hwB hwB2 hXB hay2 hfr fr0 fr1 fr2 x0 x1 x2 y0 y1 y2
                unfold byteV at v1
                rw [HS2.out] at v0
                rw [HF2.out] at v1
                rw [HZ2.out] at v2
                go_wp2
                obtain ⟨hOC, hgC⟩ := own_put3P HOB.out HAY2.out ax
                have bC : Below w1.heap.size w1 (sta3 wB g7 (y * 3) (.string ⟨ax.k.toArray⟩) (byteV ax.b) (.int .i64 ax.z)) := below_sta3 HBB.out HG7.out _ _ _
                unfold byteV at hOC hgC bC
                rw [HS1.out, HF1.out, HZ1.out] at hOC hgC bC
                have hq0 : ∃ z0, q[0]? = some z0 := ⟨_, List.getElem?_eq_getElem (by rw [HNO.out]; omega)⟩
                obtain ⟨z0, hq0⟩ := hq0
                obtain ⟨g', hgg, _, hgw, _, _, _, _⟩ := own_at3 HO.out hq0
                injection hgg with hgg
                injection hgg with hgg _ _
                subst hgg
                have hMC := ((HMa.out.below HBA2.out).grown HGB.out hgw).grown hgC hgw
                unfold sta3 at hOC bC hMC
                have HOC := Lib.hid hOC
                have HBC := Lib.hid bC
                have HMC := Lib.hid hMC
                clear hOC hgC bC hMC hq0 hgw
                go_roundw
                case rel => exact ⟨i2 + 2, (q'.set x ay).set y ax, by have := HJ.out; omega, by go_num, (swap_perm HAX.out HAY.out).trans HPM.out, HOC.out, HMC.out, HBC.out⟩
                case measure => simp [intOf]; have := HJ.out; omega
              · have j1 : (j : Int) < (m : Int) := by omega
                have n0i : ¬ (0 : Int) < (no : Int) := by omega
                obtain ⟨wc, hwc⟩ : ∃ wc : World, wc = wr := ⟨_, rfl⟩
                subst hwc
                clear hpm hlq hoq hM hb hj
                go_wp2_with ((go_at_call 15; (with_reducible refine (HEM.out _).mono ?_); rintro e3 w3 ⟨⟨p1, lf1, kA1, kn1, kc1, vA1, vn1, vc1, dA1, dn1, dc1⟩, rfl, r3, b3⟩; unfold ndV; simp only; have R3 := Lib.hid r3; have B3 := Lib.hid b3; clear r3 b3))
                obtain ⟨W5, hW5⟩ : ∃ x, w3.alloc (.cells #[.int .i64 p1, .bool lf1, .slice kA1 kn1 kc1, .slice vA1 vn1 vc1, .slice dA1 dn1 dc1] 29) = x := ⟨_, rfl⟩
                have X5 := BoxM.new (z := ⟨p1, lf1, kA1, kn1, kc1, vA1, vn1, vc1, dA1, dn1, dc1⟩) R3.out hW5.symm B3.out.size
                have c5 : Below wc.heap.size wc W5 := below_step B3.out (hW5 ▸ (Below.refl _ w3).alloc (Nat.le_refl _) _)
                rw [hW5]
                obtain ⟨Pb, hPb⟩ : ∃ P, w3.heap.size = P := ⟨_, rfl⟩
                try rw [hPb]
                rw [hPb] at X5
                have HX5 := Lib.hid X5
                have HC5 := Lib.hid c5
                clear X5 c5 hPb hW5 R3 B3 j1
                try clear n0i
                try clear hn0
                clear w3
                go_loopw [18] (fun iv wr => ∃ (k : Nat) (z : NDV), k ≤ 2 * no ∧ iv = .int .i64 (k : Int) ∧ BoxM wc.heap.size wr Pb (bldT ((q' ++ q').take k)) z ∧ Below wc.heap.size wc wr) (fun iv _ => 2 * no - (intOf iv).toNat)
                case atStart => exact ⟨0, _, Nat.zero_le _, rfl, HX5.out, HC5.out⟩
                case round =>
                  obtain ⟨k, ⟨p1, lf1, kA1, kn1, kc1, vA1, vn1, vc1, dA1, dn1, dc1⟩, hk, rfl, hM, hb⟩ := hrel
                  by_cases hkl : k < 2 * no
                  · obtain ⟨r, hr⟩ : ∃ r, k % no = r := ⟨_, rfl⟩
                    have hno0 : 0 < no := by omega
                    have hrn : r < no := by rw [← hr]; exact Nat.mod_lt _ hno0
                    have hrr : ((k : Int)).tmod (no : Int) = (r : Int) := by rw [Int.tmod_eq_emod_of_nonneg (by omega), ← hr]; exact (Int.natCast_emod _ _).symm
                    obtain ⟨x, hxr⟩ : ∃ x, q'[r]? = some x := ⟨_, List.getElem?_eq_getElem (by rw [HLQ.out]; exact hrn)⟩
                    have hx : (q' ++ q')[k]? = some x := by rw [twice_at (by rw [HLQ.out]; exact hkl), HLQ.out, hr]; exact hxr
                    have hox := cP_ok (HQOK.out x (HPM.out.mem_iff.1 (List.mem_of_getElem? hxr)))
                    have hgd := gd_bld (l := (q' ++ q').take k) (fun y hy => HQOK.out y (HPM.out.mem_iff.1 (by rcases List.mem_append.1 (List.mem_of_mem_take hy) with h | h <;> exact h)))
                    obtain ⟨g7, rfl, _, _, _, a0, a1, a2⟩ := own_at3 (ownBelow15 HOQ.out hb) hxr
                    obtain ⟨sk, hsk⟩ : ∃ s : ByteArray, (⟨x.k.toArray⟩ : ByteArray) = s := ⟨_, rfl⟩
                    obtain ⟨sv, hsv⟩ : ∃ s : ByteArray, (⟨(valP x).toArray⟩ : ByteArray) = s := ⟨_, rfl⟩
                    obtain ⟨bb, hbb⟩ : ∃ b : Nat, x.b.toNat = b := ⟨_, rfl⟩
                    obtain ⟨zz, hzz⟩ : ∃ b : Int, x.z = b := ⟨_, rfl⟩
                    have HVA := Lib.hid (fun w1 => value15_any x hox.2 w1)
                    unfold paV byteV at HVA
                    unfold byteV at a1
                    rw [hsk] at a0
                    rw [hbb] at a1
                    rw [hzz] at a2
                    rw [hsk, hsv, hbb, hzz] at HVA
                    have HTP0 := Lib.hid (bld_step hx)
                    have e1 : (⟨(cP x).k.toArray⟩ : ByteArray) = sk := hsk
                    have e2 : (⟨(cP x).d.toArray⟩ : ByteArray) = sv := hsv
                    have HE1 := Lib.hid e1
                    have HE2 := Lib.hid e2
                    have HGD := Lib.hid hgd
                    have HOX := Lib.hid hox.1
                    have HMb := Lib.hid hM
                    have HBr := Lib.hid hb
                    have i0 : (0 : Int) ≤ (k : Int) := by omega
                    have i1 : (k : Int) < 2 * (no : Int) := by omega
                    have n0i : (0 : Int) < (no : Int) := by omega
                    have hne0 : (no : Int) ≠ 0 := by omega
                    have r0 : (0 : Int) ≤ (r : Int) := by omega
                    have r1 : (r : Int) < (no : Int) := by omega
                    clear hr hxr hx hox hgd hsk hsv hbb hzz e1 e2 hM hb
                    go_wp2
                    obtain ⟨wv, hwv⟩ : ∃ X, wr.alloc (.cells #[.string sk, .int .u8 (bb : Int), .int .i64 zz] 37) = X := ⟨_, rfl⟩
                    have bV : Below wr.heap.size wr wv := hwv ▸ (Below.refl _ wr).alloc (Nat.le_refl _) _
                    have XV : Has wv wr.heap.size 37 #[.string sk, .int .u8 (bb : Int), .int .i64 zz] := hwv ▸ Has.made wr 37 _
                    rw [hwv]
                    obtain ⟨P19, hP19⟩ : ∃ P, wr.heap.size = P := ⟨_, rfl⟩
                    rw [hP19] at XV
                    try rw [hP19]
                    have hMv := HMb.out.below bV
                    have hPb1 : Pb < P19 := by have := HMb.out.b.lt; omega
                    have HLX : Hid (∀ w6 : World, wv.grownBy w6 (some Pb) → w6.cell? ⟨P19, 0, none⟩ = some (.string sk) ∧ w6.cell? ⟨P19, 1, none⟩ = some (.int .u8 (bb : Int)) ∧ w6.cell? ⟨P19, 2, none⟩ = some (.int .i64 zz)) := Lib.hid (fun w6 hg => by
                      have z := XV.grown hg (by intro e; injection e with e; omega)
                      exact ⟨z.cell 0, z.cell 1, z.cell 2⟩)
                    have HPU := Lib.hid (fun (w' : World) (hb : Below wv.heap.size wv w') => HGD.out.1.put (cP x) HOX.out rfl _ _ w' (hMv.rt.stay hb))
                    rw [HE1.out, HE2.out] at HPU
                    obtain ⟨tp, htp⟩ : ∃ t', putTop (cP x) (bldT ((q' ++ q').take k)) = t' := ⟨_, rfl⟩
                    have HTP : Hid (bldT ((q' ++ q').take (k + 1)) = tp) := Lib.hid (by rw [HTP0.out, htp])
                    rw [htp] at HPU
                    unfold ndV at HPU
                    simp only at HPU
                    have hX7 := hMv.b
                    have HCB : Hid (∀ w' : World, Below wv.heap.size wv w' → w'.cell? ⟨Pb, 0, none⟩ = some (.int .i64 p1) ∧ w'.cell? ⟨Pb, 1, none⟩ = some (.bool lf1) ∧ w'.cell? ⟨Pb, 2, none⟩ = some (.slice kA1 kn1 kc1) ∧ w'.cell? ⟨Pb, 3, none⟩ = some (.slice vA1 vn1 vc1) ∧ w'.cell? ⟨Pb, 4, none⟩ = some (.slice dA1 dn1 dc1)) := Lib.hid (fun w' hb => by
                      have z := hX7.below hb hX7.lt
                      exact ⟨z.cell 0, z.cell 1, z.cell 2, z.cell 3, z.cell 4⟩)
                    have HX7 := Lib.hid hX7
                    have HM := Lib.hid hMv
                    have HPB := Lib.hid hMv.hP
                    have HBV := Lib.hid (below_step HBr.out bV)
                    clear htp hX7 hMv hPb1 XV bV hwv hP19 a0 a1 a2
                    have hC0 := HCB.out wv.drew (Below.refl _ wv).drew
                    have hS0 : wv.grownBy wv.drew (some Pb) := ⟨rfl, rfl, rfl, Nat.le_refl _, fun _ _ _ => rfl⟩
                    have T0 : Below wv.heap.size wv wv.drew := (Below.refl _ wv).drew
                    rename_i K hK
                    refine wp_heldJQ (fun w' : World => w'.cell? ⟨Pb, 0, none⟩ = some (.int .i64 p1) ∧ w'.cell? ⟨Pb, 1, none⟩ = some (.bool lf1) ∧ w'.cell? ⟨Pb, 2, none⟩ = some (.slice kA1 kn1 kc1) ∧ w'.cell? ⟨Pb, 3, none⟩ = some (.slice vA1 vn1 vc1) ∧ w'.cell? ⟨Pb, 4, none⟩ = some (.slice dA1 dn1 dc1)) (fun w' : World => wv.grownBy w' (some Pb)) 6 hmx ?_
                    refine wpAnyJ_take (i := 0) (v := .agg #[.int .i64 p1, .bool lf1, .slice kA1 kn1 kc1, .slice vA1 vn1 vc1, .slice dA1 dn1 dc1]) rfl (by kernel_rfl) (by kernel_rfl) (by kernel_rfl) (by kernel_rfl) (by decide) (by kernel_rfl) (fun _ _ _ h => h) (Or.inl ⟨by rfl, ?_⟩) hC0 hS0 ?_
                    · rintro w6 ⟨c0, c1, c2, c3, c4⟩
                      go_simp
                    simp only [Act.put, List.setIfInBounds_toArray, List.set_cons_zero, List.set_cons_succ, List.getElem_toArray, List.getElem_cons_zero]
                    refine wpAnyJ_takeS (i := 1) (v := .pointer (some ⟨P19, 0, none⟩)) rfl (by kernel_rfl) (by kernel_rfl) (by kernel_rfl) (by decide) (fun _ _ _ h => h) (Or.inl ⟨by rfl, ?_⟩) (.inr hC0) hS0 ?_
                    · rintro w6 hb6
                      go_simp
                    simp only [Act.put, List.setIfInBounds_toArray, List.set_cons_zero, List.set_cons_succ, List.getElem_toArray, List.getElem_cons_zero, List.getElem_cons_succ]
                    refine wpAnyJ_takeS (i := 2) (v := .string sk) rfl (by kernel_rfl) (by kernel_rfl) (by kernel_rfl) (by decide) (fun _ _ _ h => h) (Or.inl ⟨by rfl, ?_⟩) (.inr hC0) hS0 ?_
                    · rintro w6 hb6
                      obtain ⟨y60, y61, y62⟩ := HLX.out w6 hb6
                      go_simp
                    simp only [Act.put, List.setIfInBounds_toArray, List.set_cons_zero, List.set_cons_succ, List.getElem_toArray, List.getElem_cons_zero, List.getElem_cons_succ]
                    refine wpAnyJ_takeS (i := 3) (v := .agg #[.string sk, .int .u8 (bb : Int), .int .i64 zz]) rfl (by kernel_rfl) (by kernel_rfl) (by kernel_rfl) (by decide) (fun _ _ _ h => h) (Or.inl ⟨by rfl, ?_⟩) (.inr hC0) hS0 ?_
                    · rintro w6 hb6
                      obtain ⟨y60, y61, y62⟩ := HLX.out w6 hb6
                      go_simp
                    simp only [Act.put, List.setIfInBounds_toArray, List.set_cons_zero, List.set_cons_succ, List.getElem_toArray, List.getElem_cons_zero, List.getElem_cons_succ]
                    refine wpAnyJ_one (i := 4) (by kernel_rfl) rfl (fun K5 hK5 => ?_)
                    go_simp
                    go_at_call 18
                    (with_reducible refine (HVA.out _).mono ?_)
                    rintro e2 w2 ⟨rfl, b2⟩
                    have T2 : Below wv.heap.size wv w2 := below_step T0 b2
                    have hC2 := HCB.out w2 T2
                    have hS2 : wv.grownBy w2 (some Pb) := only_of_below T2 (Nat.le_refl _)
                    clear b2
                    go_simp
                    refine hK5.out _ _ (.inr hC2) hS2 ?_
                    clear hK5 K5
                    refine wpAnyJ_one (i := 5) (by kernel_rfl) rfl (fun K5 hK5 => ?_)
                    go_simp
                    go_at_call 17
                    (with_reducible refine (HPU.out _ T2).mono ?_)
                    rintro e3 w3 ⟨⟨p3, lf3, kA3, kn3, kc3, vA3, vn3, vc3, dA3, dn3, dc3⟩, rfl, r3, b3⟩
                    unfold ndV
                    simp only
                    have T3 : Below wv.heap.size wv w3 := below_step T2 b3
                    have R3 := Lib.hid r3
                    have HT3 := Lib.hid T3
                    have H23 : Hid (wv.heap.size ≤ w2.heap.size) := Lib.hid T2.size
                    have hC3 := HCB.out w3 T3
                    have hS3 : wv.grownBy w3 (some Pb) := only_of_below T3 (Nat.le_refl _)
                    clear b3 r3
                    go_simp
                    refine hK5.out _ _ (.inr hC3) hS3 ?_
                    clear hK5 K5
                    refine wpAnyJ_one (i := 6) (by kernel_rfl) rfl (fun K5 hK5 => ?_)
                    go_simp
                    have Z7 := HX7.out.below HT3.out HX7.out.lt
                    have f0 := Z7.free 0
                    have f1 := Z7.free 1
                    have f2 := Z7.free 2
                    have f3 := Z7.free 3
                    have f4 := Z7.free 4
                    obtain ⟨q0, q1, q2, q3, q4⟩ := hC3
                    have hS4 := only_store (only_store (only_store (only_store (only_store hS3 0 (.int .i64 p3)) 1 (.bool lf3)) 2 (.slice kA3 kn3 kc3)) 3 (.slice vA3 vn3 vc3)) 4 (.slice dA3 dn3 dc3)
                    go_simp
                    refine hK5.out _ _ (.inl (by kernel_rfl)) hS4 ?_
                    clear hK5 K5
                    refine wpAnyJ_done (by kernel_rfl) ?_ _
                    refine hK _ _ ?_
                    have hMp := HM.out.put HT3.out R3.out H23.out
                    have hBp := below_st5 (below_step HBV.out HT3.out) HPB.out (.int .i64 p3) (.bool lf3) (.slice kA3 kn3 kc3) (.slice vA3 vn3 vc3) (.slice dA3 dn3 dc3)
                    unfold st5 at hMp hBp
                    simp only at hMp
                    have HMP := Lib.hid hMp
                    have HBP := Lib.hid hBp
                    clear hMp hBp hS4 Z7 f0 f1 f2 f3 f4 q0 q1 q2 q3 q4 hS3 hS2 hC2 T2 T3 T0
                    go_wp2
                    go_roundw
                    case rel => exact ⟨k + 1, ⟨p3, lf3, kA3, kn3, kc3, vA3, vn3, vc3, dA3, dn3, dc3⟩, by omega, by go_num, by rw [HTP.out]; exact HMP.out, HBP.out⟩
                    case measure => simp [intOf]; omega
                  · have hkn : k = 2 * no := by omega
                    have htk : (q' ++ q').take k = q' ++ q' := List.take_of_length_le (by rw [hkn, List.length_append, HLQ.out]; omega)
                    rw [htk] at hM
                    have i1 : ¬ (k : Int) < 2 * (no : Int) := by omega
                    obtain ⟨we, hwe⟩ : ∃ we : World, we = wr := ⟨_, rfl⟩
                    subst hwe
                    have hgb := gd_bld (l := q' ++ q') (fun y hy => HQOK.out y (HPM.out.mem_iff.1 (by rcases List.mem_append.1 hy with h | h <;> exact h)))
                    have hga := gd_bld (l := q) HQOK.out
                    rw [HTA.out] at hga
                    obtain ⟨hoe, hol⟩ := orders_ent HND.out HPM.out
                    obtain ⟨tb, htb⟩ : ∃ t, bldT (q' ++ q') = t := ⟨_, rfl⟩
                    rw [htb] at hM hgb
                    obtain ⟨E, hE⟩ : ∃ E, entT ta = E := ⟨_, rfl⟩
                    have hEb : entT tb = E := by rw [hgb.2.1, hoe, ← hga.2.1, hE]
                    have hEn : E.length = no := by rw [← hE, hga.2.1, hol, HNO.out]
                    have HEN := Lib.hid hEn
                    have hMA := HMa.out.below hb
                    have HWE : Hid (Below w1.heap.size w1 we) := Lib.hid (below_step HB2.out hb)
                    have HPA := Lib.hid (fun (w' : World) (hb : Below we.heap.size we w') => hga.1.plain _ _ w' (hMA.rt.stay hb))
                    have HPBB := Lib.hid (fun (w' : World) (hb : Below we.heap.size we w') => hgb.1.plain _ _ w' (hM.rt.stay hb))
                    have HEA := Lib.hid (fun (w' : World) (F : Nat → Prop) (v : NV) (hr : RepN F w' v ta) => r15Ents_row ta F v w' hr (by rw [hE]; omega) no (by rw [hE]; exact hEn))
                    have HEB := Lib.hid (fun (w' : World) (F : Nat → Prop) (v : NV) (hr : RepN F w' v tb) => r15Ents_row tb F v w' hr (by rw [hEb]; omega) no (by rw [hEb]; exact hEn))
                    rw [hE] at HEA
                    rw [hEb] at HEB
                    have hckb : checkC tb = true := hgb.2.2.elim (fun e => by rw [e]; exact empty_check) (fun e => good_check hgb.1.good e)
                    have HCK := Lib.hid (fun (w' : World) (hb : Below we.heap.size we w') => hgb.1.check (by rw [List.length_append, HLQ.out]; omega) _ _ w' (hM.rt.stay hb))
                    rw [hckb] at HCK
                    have HCB5 : Hid (∀ w6 : World, Below we.heap.size we w6 → w6.cell? ⟨Pb, 0, none⟩ = some (.int .i64 p1) ∧ w6.cell? ⟨Pb, 1, none⟩ = some (.bool lf1) ∧ w6.cell? ⟨Pb, 2, none⟩ = some (.slice kA1 kn1 kc1) ∧ w6.cell? ⟨Pb, 3, none⟩ = some (.slice vA1 vn1 vc1) ∧ w6.cell? ⟨Pb, 4, none⟩ = some (.slice dA1 dn1 dc1)) := Lib.hid (fun w6 hb => by
                      have z := hM.b.below hb hM.b.lt
                      exact ⟨z.cell 0, z.cell 1, z.cell 2, z.cell 3, z.cell 4⟩)
                    unfold ndV at HPA HPBB HCK
                    unfold nvV at HEA HEB
                    simp only at HPA HPBB HCK
                    have x0 := hMA.b.cell 0
                    have x1 := hMA.b.cell 1
                    have x2 := hMA.b.cell 2
                    have x3 := hMA.b.cell 3
                    have x4 := hMA.b.cell 4
                    clear hkn htk hgb hga hoe hol htb hE hEb hEn hM hMA hb hckb
                    go_wp2_with (first
                      | (go_at_call 21; (with_reducible refine (HPA.out _ (Below.refl _ _)).mono ?_); rintro e2 w2 ⟨⟨v0, v1, vA, vn, vc⟩, rfl, r2, b2⟩; unfold nvV; simp only; have R2 := Lib.hid r2; have Q2 := Lib.hid b2; clear r2 b2 x0 x1 x2 x3 x4)
                      | (go_at_call 25; (with_reducible refine (HEA.out _ _ ⟨v0, v1, vA, vn, vc⟩ R2.out).mono ?_); rintro e3 w3 ⟨A1, cE1, rfl, r3, b3⟩; have R3 := Lib.hid r3; have Q3 := Lib.hid (below_step Q2.out b3); clear r3 b3; obtain ⟨z0, z1, z2, z3, z4⟩ := HCB5.out _ Q3.out)
                      | (go_at_call 21; (with_reducible refine (HPBB.out _ Q3.out).mono ?_); rintro e4 w4 ⟨⟨u0, u1, uA, un, uc⟩, rfl, r4, b4⟩; unfold nvV; simp only; have R4 := Lib.hid r4; have Q4 := Lib.hid (below_step Q3.out b4); have Q34 := Lib.hid b4; clear r4 b4 z0 z1 z2 z3 z4)
                      | (go_at_call 25; (with_reducible refine (HEB.out _ _ ⟨u0, u1, uA, un, uc⟩ R4.out).mono ?_); rintro e5 w5 ⟨A2, cE2, rfl, r5, b5⟩; have R5 := Lib.hid r5; have Q5 := Lib.hid (below_step Q4.out b5); have Q35 := Lib.hid (below_step Q34.out b5); clear r5 b5; obtain ⟨z0, z1, z2, z3, z4⟩ := HCB5.out _ Q5.out)
                      | (go_at_call 24; (with_reducible refine (HCK.out _ Q5.out).mono ?_); rintro e9 w9 ⟨rfl, b9⟩; have Q9 := Lib.hid (below_step Q5.out b9); have Q39 := Lib.hid (below_step Q35.out b9); have Q59 := Lib.hid b9; clear b9 z0 z1 z2 z3 z4))
                    have HR1 := Lib.hid (R3.out.below Q39.out)
                    have HR2 := Lib.hid (R5.out.below Q59.out)
                    have HFIN : Hid (Below W.heap.size W w9) := Lib.hid (below_step B1.out (below_step HWE.out Q9.out))
                    clear HPA HPBB HEA HEB HCK HCB5 R2 R3 R4 R5 Q2 Q3 Q34 Q4 Q5 Q35 Q9 Q39 Q59 i1
                    go_loopw [22] (fun iv wr => ∃ j : Nat, j ≤ no ∧ iv = .int .i64 (j : Int) ∧ Below w9.heap.size w9 wr) (fun iv _ => no - (intOf iv).toNat)
                    case atStart => exact ⟨0, Nat.zero_le _, rfl, Below.refl _ _⟩
                    case round =>
                      obtain ⟨j, hj, rfl, hb⟩ := hrel
                      by_cases hjl : j < no
                      · obtain ⟨x, hx⟩ : ∃ x, E[j]? = some x := ⟨_, List.getElem?_eq_getElem (by rw [HEN.out]; exact hjl)⟩
                        obtain ⟨g1, o1, rfl, _, _⟩ := ents_cell HR1.out hx
                        obtain ⟨g2, o2, rfl, _, _⟩ := ents_cell HR2.out hx
                        obtain ⟨sk, hsk⟩ : ∃ s : ByteArray, (⟨x.1.toArray⟩ : ByteArray) = s := ⟨_, rfl⟩
                        obtain ⟨sd, hsd⟩ : ∃ s : ByteArray, (⟨x.2.toArray⟩ : ByteArray) = s := ⟨_, rfl⟩
                        have HX1 : Hid (∀ w6 : World, Below w9.heap.size w9 w6 → w6.cell? ⟨g1, o1 + j * 4, none⟩ = some (.string sk) ∧ w6.cell? ⟨g1, o1 + j * 4 + 1, none⟩ = some (.string sd)) := Lib.hid (fun w6 hb6 => by
                          obtain ⟨g', o', hgg, z0, z1⟩ := ents_cell (HR1.out.below hb6) hx
                          injection hgg with hgg
                          injection hgg with e1 e2 _
                          subst e1 e2
                          rw [hsk] at z0
                          rw [hsd] at z1
                          exact ⟨z0, z1⟩)
                        have HX2 : Hid (∀ w6 : World, Below w9.heap.size w9 w6 → w6.cell? ⟨g2, o2 + j * 4, none⟩ = some (.string sk) ∧ w6.cell? ⟨g2, o2 + j * 4 + 1, none⟩ = some (.string sd)) := Lib.hid (fun w6 hb6 => by
                          obtain ⟨g', o', hgg, z0, z1⟩ := ents_cell (HR2.out.below hb6) hx
                          injection hgg with hgg
                          injection hgg with e1 e2 _
                          subst e1 e2
                          rw [hsk] at z0
                          rw [hsd] at z1
                          exact ⟨z0, z1⟩)
                        have j0 : (0 : Int) ≤ (j : Int) := by omega
                        have j1 : (j : Int) < (no : Int) := by omega
                        have U0 : Below w9.heap.size w9 wr.drew := hb.drew
                        clear hx hsk hsd hb
                        go_wp2
                        first | (rename_i K hK; refine wp_held (fun w6 : World => Below w9.heap.size w9 w6) K hmx ?_ (fun _ _ h => h)) | (rename_i K hK hz; refine wp_held (fun w6 : World => Below w9.heap.size w9 w6) K hmx ?_ (fun _ _ h => h))
                        obtain ⟨Wd, hWd⟩ : ∃ X, wr.drew = X := ⟨_, rfl⟩
                        rw [hWd] at U0 ⊢
                        clear hWd
                        refine wpAnyH_take (i := 0) (v := .slice (some ⟨g1, o1, none⟩) no cE1) (lit rfl) (by kernel_rfl) (by kernel_rfl) (by kernel_rfl) (fun _ _ _ h => h) (Or.inl ⟨by rfl, ?_⟩) U0 ?_
                        · rintro w6 hb6
                          go_simp
                        simp only [Act.put, List.setIfInBounds_toArray, List.set_cons_zero, List.set_cons_succ]
                        refine wpAnyH_take (i := 1) (v := .int .i64 (j : Int)) (lit rfl) (by kernel_rfl) (by kernel_rfl) (by kernel_rfl) (fun _ _ _ h => h) (Or.inl ⟨by rfl, ?_⟩) U0 ?_
                        · rintro w6 hb6
                          go_simp
                        simp only [Act.put, List.setIfInBounds_toArray, List.set_cons_zero, List.set_cons_succ]
                        refine wpAnyH_take (i := 2) (v := .pointer (some ⟨g1, o1 + j * 4, none⟩)) (lit rfl) (by kernel_rfl) (by kernel_rfl) (by kernel_rfl) (fun _ _ _ h => h) (Or.inl ⟨by rfl, ?_⟩) U0 ?_
                        · rintro w6 hb6
                          go_simp
                        simp only [Act.put, List.setIfInBounds_toArray, List.set_cons_zero, List.set_cons_succ]
                        refine wpAnyH_take (i := 3) (v := .pointer (some ⟨g1, o1 + j * 4, none⟩)) (lit rfl) (by kernel_rfl) (by kernel_rfl) (by kernel_rfl) (fun _ _ _ h => h) (Or.inl ⟨by rfl, ?_⟩) U0 ?_
                        · rintro w6 hb6
                          go_simp
                        simp only [Act.put, List.setIfInBounds_toArray, List.set_cons_zero, List.set_cons_succ]
                        refine wpAnyH_take (i := 4) (v := .string sk) (lit rfl) (by kernel_rfl) (by kernel_rfl) (by kernel_rfl) (fun _ _ _ h => h) (Or.inl ⟨by rfl, ?_⟩) U0 ?_
                        · rintro w6 hb6
                          obtain ⟨y60, y61⟩ := HX1.out w6 hb6
                          go_simp
                        simp only [Act.put, List.setIfInBounds_toArray, List.set_cons_zero, List.set_cons_succ]
                        refine wpAnyH_take (i := 5) (v := .slice (some ⟨g2, o2, none⟩) no cE2) (lit rfl) (by kernel_rfl) (by kernel_rfl) (by kernel_rfl) (fun _ _ _ h => h) (Or.inl ⟨by rfl, ?_⟩) U0 ?_
                        · rintro w6 hb6
                          go_simp
                        simp only [Act.put, List.setIfInBounds_toArray, List.set_cons_zero, List.set_cons_succ]
                        refine wpAnyH_take (i := 6) (v := .int .i64 (j : Int)) (lit rfl) (by kernel_rfl) (by kernel_rfl) (by kernel_rfl) (fun _ _ _ h => h) (Or.inl ⟨by rfl, ?_⟩) U0 ?_
                        · rintro w6 hb6
                          go_simp
                        simp only [Act.put, List.setIfInBounds_toArray, List.set_cons_zero, List.set_cons_succ]
                        refine wpAnyH_take (i := 7) (v := .pointer (some ⟨g2, o2 + j * 4, none⟩)) (lit rfl) (by kernel_rfl) (by kernel_rfl) (by kernel_rfl) (fun _ _ _ h => h) (Or.inl ⟨by rfl, ?_⟩) U0 ?_
                        · rintro w6 hb6
                          go_simp
                        simp only [Act.put, List.setIfInBounds_toArray, List.set_cons_zero, List.set_cons_succ]
                        refine wpAnyH_take (i := 8) (v := .pointer (some ⟨g2, o2 + j * 4, none⟩)) (lit rfl) (by kernel_rfl) (by kernel_rfl) (by kernel_rfl) (fun _ _ _ h => h) (Or.inl ⟨by rfl, ?_⟩) U0 ?_
                        · rintro w6 hb6
                          go_simp
                        simp only [Act.put, List.setIfInBounds_toArray, List.set_cons_zero, List.set_cons_succ]
                        refine wpAnyH_take (i := 9) (v := .string sk) (lit rfl) (by kernel_rfl) (by kernel_rfl) (by kernel_rfl) (fun _ _ _ h => h) (Or.inl ⟨by rfl, ?_⟩) U0 ?_
                        · rintro w6 hb6
                          obtain ⟨y60, y61⟩ := HX2.out w6 hb6
                          go_simp
                        simp only [Act.put, List.setIfInBounds_toArray, List.set_cons_zero, List.set_cons_succ]
                        refine wpAnyH_take (i := 10) (v := .bool false) (lit rfl) (by kernel_rfl) (by kernel_rfl) (by kernel_rfl) (fun _ _ _ h => h) (Or.inl ⟨by rfl, ?_⟩) U0 ?_
                        · rintro w6 hb6
                          go_simp
                        simp only [Act.put, List.setIfInBounds_toArray, List.set_cons_zero, List.set_cons_succ]
                        refine wpAnyH_take (i := 11) (v := .bool false) (lit rfl) (by kernel_rfl) (by kernel_rfl) (by kernel_rfl) (fun _ _ _ h => h) (Or.inl ⟨by rfl, ?_⟩) U0 ?_
                        · rintro w6 hb6
                          go_simp
                        simp only [Act.put, List.setIfInBounds_toArray, List.set_cons_zero, List.set_cons_succ]
                        refine wpAnyH_take (i := 12) (v := .slice (some ⟨g1, o1, none⟩) no cE1) (lit rfl) (by kernel_rfl) (by kernel_rfl) (by kernel_rfl) (fun _ _ _ h => h) (Or.inl ⟨by rfl, ?_⟩) U0 ?_
                        · rintro w6 hb6
                          go_simp
                        simp only [Act.put, List.setIfInBounds_toArray, List.set_cons_zero, List.set_cons_succ]
                        refine wpAnyH_take (i := 13) (v := .int .i64 (j : Int)) (lit rfl) (by kernel_rfl) (by kernel_rfl) (by kernel_rfl) (fun _ _ _ h => h) (Or.inl ⟨by rfl, ?_⟩) U0 ?_
                        · rintro w6 hb6
                          go_simp
                        simp only [Act.put, List.setIfInBounds_toArray, List.set_cons_zero, List.set_cons_succ]
                        refine wpAnyH_take (i := 14) (v := .pointer (some ⟨g1, o1 + j * 4, none⟩)) (lit rfl) (by kernel_rfl) (by kernel_rfl) (by kernel_rfl) (fun _ _ _ h => h) (Or.inl ⟨by rfl, ?_⟩) U0 ?_
                        · rintro w6 hb6
                          go_simp
                        simp only [Act.put, List.setIfInBounds_toArray, List.set_cons_zero, List.set_cons_succ]
                        refine wpAnyH_take (i := 15) (v := .pointer (some ⟨g1, o1 + j * 4 + 1, none⟩)) (lit rfl) (by kernel_rfl) (by kernel_rfl) (by kernel_rfl) (fun _ _ _ h => h) (Or.inl ⟨by rfl, ?_⟩) U0 ?_
                        · rintro w6 hb6
                          go_simp
                        simp only [Act.put, List.setIfInBounds_toArray, List.set_cons_zero, List.set_cons_succ]
                        refine wpAnyH_take (i := 16) (v := .pointer (some ⟨g1, o1 + j * 4 + 1, none⟩)) (lit rfl) (by kernel_rfl) (by kernel_rfl) (by kernel_rfl) (fun _ _ _ h => h) (Or.inl ⟨by rfl, ?_⟩) U0 ?_
                        · rintro w6 hb6
                          go_simp
                        simp only [Act.put, List.setIfInBounds_toArray, List.set_cons_zero, List.set_cons_succ]
                        refine wpAnyH_take (i := 17) (v := .string sd) (lit rfl) (by kernel_rfl) (by kernel_rfl) (by kernel_rfl) (fun _ _ _ h => h) (Or.inl ⟨by rfl, ?_⟩) U0 ?_
                        · rintro w6 hb6
                          obtain ⟨y60, y61⟩ := HX1.out w6 hb6
                          go_simp
                        simp only [Act.put, List.setIfInBounds_toArray, List.set_cons_zero, List.set_cons_succ]
                        refine wpAnyH_take (i := 18) (v := .slice (some ⟨g2, o2, none⟩) no cE2) (lit rfl) (by kernel_rfl) (by kernel_rfl) (by kernel_rfl) (fun _ _ _ h => h) (Or.inl ⟨by rfl, ?_⟩) U0 ?_
                        · rintro w6 hb6
                          go_simp
                        simp only [Act.put, List.setIfInBounds_toArray, List.set_cons_zero, List.set_cons_succ]
                        refine wpAnyH_take (i := 19) (v := .int .i64 (j : Int)) (lit rfl) (by kernel_rfl) (by kernel_rfl) (by kernel_rfl) (fun _ _ _ h => h) (Or.inl ⟨by rfl, ?_⟩) U0 ?_
                        · rintro w6 hb6
                          go_simp
                        simp only [Act.put, List.setIfInBounds_toArray, List.set_cons_zero, List.set_cons_succ]
                        refine wpAnyH_take (i := 20) (v := .pointer (some ⟨g2, o2 + j * 4, none⟩)) (lit rfl) (by kernel_rfl) (by kernel_rfl) (by kernel_rfl) (fun _ _ _ h => h) (Or.inl ⟨by rfl, ?_⟩) U0 ?_
                        · rintro w6 hb6
                          go_simp
                        simp only [Act.put, List.setIfInBounds_toArray, List.set_cons_zero, List.set_cons_succ]
                        refine wpAnyH_take (i := 21) (v := .pointer (some ⟨g2, o2 + j * 4 + 1, none⟩)) (lit rfl) (by kernel_rfl) (by kernel_rfl) (by kernel_rfl) (fun _ _ _ h => h) (Or.inl ⟨by rfl, ?_⟩) U0 ?_
                        · rintro w6 hb6
                          go_simp
                        simp only [Act.put, List.setIfInBounds_toArray, List.set_cons_zero, List.set_cons_succ]
                        refine wpAnyH_take (i := 22) (v := .pointer (some ⟨g2, o2 + j * 4 + 1, none⟩)) (lit rfl) (by kernel_rfl) (by kernel_rfl) (by kernel_rfl) (fun _ _ _ h => h) (Or.inl ⟨by rfl, ?_⟩) U0 ?_
                        · rintro w6 hb6
                          go_simp
                        simp only [Act.put, List.setIfInBounds_toArray, List.set_cons_zero, List.set_cons_succ]
                        refine wpAnyH_take (i := 23) (v := .string sd) (lit rfl) (by kernel_rfl) (by kernel_rfl) (by kernel_rfl) (fun _ _ _ h => h) (Or.inl ⟨by rfl, ?_⟩) U0 ?_
                        · rintro w6 hb6
                          obtain ⟨y60, y61⟩ := HX2.out w6 hb6
                          go_simp
                        simp only [Act.put, List.setIfInBounds_toArray, List.set_cons_zero, List.set_cons_succ]
                        refine wpAnyH_take (i := 24) (v := .bool false) (lit rfl) (by kernel_rfl) (by kernel_rfl) (by kernel_rfl) (fun _ _ _ h => h) (Or.inl ⟨by rfl, ?_⟩) U0 ?_
                        · rintro w6 hb6
                          go_simp
                        simp only [Act.put, List.setIfInBounds_toArray, List.set_cons_zero, List.set_cons_succ]
                        refine wpAnyH_take (i := 25) (v := .bool false) (lit rfl) (by kernel_rfl) (by kernel_rfl) (by kernel_rfl) (fun _ _ _ h => h) (Or.inl ⟨by rfl, ?_⟩) U0 ?_
                        · rintro w6 hb6
                          go_simp
                        simp only [Act.put, List.setIfInBounds_toArray, List.set_cons_zero, List.set_cons_succ]
                        refine wpAnyH_done (by kernel_rfl) ?_ _
                        refine hK _ _ ?_
                        go_wp2
                        go_roundw
                        case rel => exact ⟨j + 1, by omega, by go_num, U0⟩
                        case measure => simp [intOf]; omega
                      · have j1 : ¬ (j : Int) < (no : Int) := by omega
                        have HFE := Lib.hid (below_step HFIN.out hb)
                        clear hb
                        go_wp2
                        go_ret
                        exact ⟨rfl, HFE.out⟩
            · have j1 : ¬ (j : Int) < (m : Int) := by omega
              obtain ⟨wc, hwc⟩ : ∃ wc : World, wc = wr := ⟨_, rfl⟩
              subst hwc
              clear hpm hlq hoq hM hb hj
              go_wp2_with ((go_at_call 15; (with_reducible refine (HEM.out _).mono ?_); rintro e3 w3 ⟨⟨p1, lf1, kA1, kn1, kc1, vA1, vn1, vc1, dA1, dn1, dc1⟩, rfl, r3, b3⟩; unfold ndV; simp only; have R3 := Lib.hid r3; have B3 := Lib.hid b3; clear r3 b3))
              obtain ⟨W5, hW5⟩ : ∃ x, w3.alloc (.cells #[.int .i64 p1, .bool lf1, .slice kA1 kn1 kc1, .slice vA1 vn1 vc1, .slice dA1 dn1 dc1] 29) = x := ⟨_, rfl⟩
              have X5 := BoxM.new (z := ⟨p1, lf1, kA1, kn1, kc1, vA1, vn1, vc1, dA1, dn1, dc1⟩) R3.out hW5.symm B3.out.size
              have c5 : Below wc.heap.size wc W5 := below_step B3.out (hW5 ▸ (Below.refl _ w3).alloc (Nat.le_refl _) _)
              rw [hW5]
              obtain ⟨Pb, hPb⟩ : ∃ P, w3.heap.size = P := ⟨_, rfl⟩
              try rw [hPb]
              rw [hPb] at X5
              have HX5 := Lib.hid X5
              have HC5 := Lib.hid c5
              clear X5 c5 hPb hW5 R3 B3 j1
              try clear n0i
              try clear hn0
              clear w3
              go_loopw [18] (fun iv wr => ∃ (k : Nat) (z : NDV), k ≤ 2 * no ∧ iv = .int .i64 (k : Int) ∧ BoxM wc.heap.size wr Pb (bldT ((q' ++ q').take k)) z ∧ Below wc.heap.size wc wr) (fun iv _ => 2 * no - (intOf iv).toNat)
              case atStart => exact ⟨0, _, Nat.zero_le _, rfl, HX5.out, HC5.out⟩
              case round =>
                obtain ⟨k, ⟨p1, lf1, kA1, kn1, kc1, vA1, vn1, vc1, dA1, dn1, dc1⟩, hk, rfl, hM, hb⟩ := hrel
                by_cases hkl : k < 2 * no
                · obtain ⟨r, hr⟩ : ∃ r, k % no = r := ⟨_, rfl⟩
                  have hno0 : 0 < no := by omega
                  have hrn : r < no := by rw [← hr]; exact Nat.mod_lt _ hno0
                  have hrr : ((k : Int)).tmod (no : Int) = (r : Int) := by rw [Int.tmod_eq_emod_of_nonneg (by omega), ← hr]; exact (Int.natCast_emod _ _).symm
                  obtain ⟨x, hxr⟩ : ∃ x, q'[r]? = some x := ⟨_, List.getElem?_eq_getElem (by rw [HLQ.out]; exact hrn)⟩
                  have hx : (q' ++ q')[k]? = some x := by rw [twice_at (by rw [HLQ.out]; exact hkl), HLQ.out, hr]; exact hxr
                  have hox := cP_ok (HQOK.out x (HPM.out.mem_iff.1 (List.mem_of_getElem? hxr)))
                  have hgd := gd_bld (l := (q' ++ q').take k) (fun y hy => HQOK.out y (HPM.out.mem_iff.1 (by rcases List.mem_append.1 (List.mem_of_mem_take hy) with h | h <;> exact h)))
                  obtain ⟨g7, rfl, _, _, _, a0, a1, a2⟩ := own_at3 (ownBelow15 HOQ.out hb) hxr
                  obtain ⟨sk, hsk⟩ : ∃ s : ByteArray, (⟨x.k.toArray⟩ : ByteArray) = s := ⟨_, rfl⟩
                  obtain ⟨sv, hsv⟩ : ∃ s : ByteArray, (⟨(valP x).toArray⟩ : ByteArray) = s := ⟨_, rfl⟩
                  obtain ⟨bb, hbb⟩ : ∃ b : Nat, x.b.toNat = b := ⟨_, rfl⟩
                  obtain ⟨zz, hzz⟩ : ∃ b : Int, x.z = b := ⟨_, rfl⟩
                  have HVA := Lib.hid (fun w1 => value15_any x hox.2 w1)
                  unfold paV byteV at HVA
                  unfold byteV at a1
                  rw [hsk] at a0
                  rw [hbb] at a1
                  rw [hzz] at a2
                  rw [hsk, hsv, hbb, hzz] at HVA
                  have HTP0 := Lib.hid (bld_step hx)
                  have e1 : (⟨(cP x).k.toArray⟩ : ByteArray) = sk := hsk
                  have e2 : (⟨(cP x).d.toArray⟩ : ByteArray) = sv := hsv
                  have HE1 := Lib.hid e1
                  have HE2 := Lib.hid e2
                  have HGD := Lib.hid hgd
                  have HOX := Lib.hid hox.1
                  have HMb := Lib.hid hM
                  have HBr := Lib.hid hb
                  have i0 : (0 : Int) ≤ (k : Int) := by omega
                  have i1 : (k : Int) < 2 * (no : Int) := by omega
                  have n0i : (0 : Int) < (no : Int) := by omega
                  have hne0 : (no : Int) ≠ 0 := by omega
                  have r0 : (0 : Int) ≤ (r : Int) := by omega
                  have r1 : (r : Int) < (no : Int) := by omega
                  clear hr hxr hx hox hgd hsk hsv hbb hzz e1 e2 hM hb
                  go_wp2
                  obtain ⟨wv, hwv⟩ : ∃ X, wr.alloc (.cells #[.string sk, .int .u8 (bb : Int), .int .i64 zz] 37) = X := ⟨_, rfl⟩
                  have bV : Below wr.heap.size wr wv := hwv ▸ (Below.refl _ wr).alloc (Nat.le_refl _) _
                  have XV : Has wv wr.heap.size 37 #[.string sk, .int .u8 (bb : Int), .int .i64 zz] := hwv ▸ Has.made wr 37 _
                  rw [hwv]
                  obtain ⟨P19, hP19⟩ : ∃ P, wr.heap.size = P := ⟨_, rfl⟩
                  rw [hP19] at XV
                  try rw [hP19]
                  have hMv := HMb.out.below bV
                  have hPb1 : Pb < P19 := by have := HMb.out.b.lt; omega
                  have HLX : Hid (∀ w6 : World, wv.grownBy w6 (some Pb) → w6.cell? ⟨P19, 0, none⟩ = some (.string sk) ∧ w6.cell? ⟨P19, 1, none⟩ = some (.int .u8 (bb : Int)) ∧ w6.cell? ⟨P19, 2, none⟩ = some (.int .i64 zz)) := Lib.hid (fun w6 hg => by
                    have z := XV.grown hg (by intro e; injection e with e; omega)
                    exact ⟨z.cell 0, z.cell 1, z.cell 2⟩)
                  have HPU := Lib.hid (fun (w' : World) (hb : Below wv.heap.size wv w') => HGD.out.1.put (cP x) HOX.out rfl _ _ w' (hMv.rt.stay hb))
                  rw [HE1.out, HE2.out] at HPU
                  obtain ⟨tp, htp⟩ : ∃ t', putTop (cP x) (bldT ((q' ++ q').take k)) = t' := ⟨_, rfl⟩
                  have HTP : Hid (bldT ((q' ++ q').take (k + 1)) = tp) := Lib.hid (by rw [HTP0.out, htp])
                  rw [htp] at HPU
                  unfold ndV at HPU
                  simp only at HPU
                  have hX7 := hMv.b
                  have HCB : Hid (∀ w' : World, Below wv.heap.size wv w' → w'.cell? ⟨Pb, 0, none⟩ = some (.int .i64 p1) ∧ w'.cell? ⟨Pb, 1, none⟩ = some (.bool lf1) ∧ w'.cell? ⟨Pb, 2, none⟩ = some (.slice kA1 kn1 kc1) ∧ w'.cell? ⟨Pb, 3, none⟩ = some (.slice vA1 vn1 vc1) ∧ w'.cell? ⟨Pb, 4, none⟩ = some (.slice dA1 dn1 dc1)) := Lib.hid (fun w' hb => by
                    have z := hX7.below hb hX7.lt
                    exact ⟨z.cell 0, z.cell 1, z.cell 2, z.cell 3, z.cell 4⟩)
                  have HX7 := Lib.hid hX7
                  have HM := Lib.hid hMv
                  have HPB := Lib.hid hMv.hP
                  have HBV := Lib.hid (below_step HBr.out bV)
                  clear htp hX7 hMv hPb1 XV bV hwv hP19 a0 a1 a2
                  have hC0 := HCB.out wv.drew (Below.refl _ wv).drew
                  have hS0 : wv.grownBy wv.drew (some Pb) := ⟨rfl, rfl, rfl, Nat.le_refl _, fun _ _ _ => rfl⟩
                  have T0 : Below wv.heap.size wv wv.drew := (Below.refl _ wv).drew
                  rename_i K hK
                  refine wp_heldJQ (fun w' : World => w'.cell? ⟨Pb, 0, none⟩ = some (.int .i64 p1) ∧ w'.cell? ⟨Pb, 1, none⟩ = some (.bool lf1) ∧ w'.cell? ⟨Pb, 2, none⟩ = some (.slice kA1 kn1 kc1) ∧ w'.cell? ⟨Pb, 3, none⟩ = some (.slice vA1 vn1 vc1) ∧ w'.cell? ⟨Pb, 4, none⟩ = some (.slice dA1 dn1 dc1)) (fun w' : World => wv.grownBy w' (some Pb)) 6 hmx ?_
                  refine wpAnyJ_take (i := 0) (v := .agg #[.int .i64 p1, .bool lf1, .slice kA1 kn1 kc1, .slice vA1 vn1 vc1, .slice dA1 dn1 dc1]) rfl (by kernel_rfl) (by kernel_rfl) (by kernel_rfl) (by kernel_rfl) (by decide) (by kernel_rfl) (fun _ _ _ h => h) (Or.inl ⟨by rfl, ?_⟩) hC0 hS0 ?_
                  · rintro w6 ⟨c0, c1, c2, c3, c4⟩
                    go_simp
                  simp only [Act.put, List.setIfInBounds_toArray, List.set_cons_zero, List.set_cons_succ, List.getElem_toArray, List.getElem_cons_zero]
                  refine wpAnyJ_takeS (i := 1) (v := .pointer (some ⟨P19, 0, none⟩)) rfl (by kernel_rfl) (by kernel_rfl) (by kernel_rfl) (by decide) (fun _ _ _ h => h) (Or.inl ⟨by rfl, ?_⟩) (.inr hC0) hS0 ?_
                  · rintro w6 hb6
                    go_simp
                  simp only [Act.put, List.setIfInBounds_toArray, List.set_cons_zero, List.set_cons_succ, List.getElem_toArray, List.getElem_cons_zero, List.getElem_cons_succ]
                  refine wpAnyJ_takeS (i := 2) (v := .string sk) rfl (by kernel_rfl) (by kernel_rfl) (by kernel_rfl) (by decide) (fun _ _ _ h => h) (Or.inl ⟨by rfl, ?_⟩) (.inr hC0) hS0 ?_
                  · rintro w6 hb6
                    obtain ⟨y60, y61, y62⟩ := HLX.out w6 hb6
                    go_simp
                  simp only [Act.put, List.setIfInBounds_toArray, List.set_cons_zero, List.set_cons_succ, List.getElem_toArray, List.getElem_cons_zero, List.getElem_cons_succ]
                  refine wpAnyJ_takeS (i := 3) (v := .agg #[.string sk, .int .u8 (bb : Int), .int .i64 zz]) rfl (by kernel_rfl) (by kernel_rfl) (by kernel_rfl) (by decide) (fun _ _ _ h => h) (Or.inl ⟨by rfl, ?_⟩) (.inr hC0) hS0 ?_
                  · rintro w6 hb6
                    obtain ⟨y60, y61, y62⟩ := HLX.out w6 hb6
                    go_simp
                  simp only [Act.put, List.setIfInBounds_toArray, List.set_cons_zero, List.set_cons_succ, List.getElem_toArray, List.getElem_cons_zero, List.getElem_cons_succ]
                  refine wpAnyJ_one (i := 4) (by kernel_rfl) rfl (fun K5 hK5 => ?_)
                  go_simp
                  go_at_call 18
                  (with_reducible refine (HVA.out _).mono ?_)
                  rintro e2 w2 ⟨rfl, b2⟩
                  have T2 : Below wv.heap.size wv w2 := below_step T0 b2
                  have hC2 := HCB.out w2 T2
                  have hS2 : wv.grownBy w2 (some Pb) := only_of_below T2 (Nat.le_refl _)
                  clear b2
                  go_simp
                  refine hK5.out _ _ (.inr hC2) hS2 ?_
                  clear hK5 K5
                  refine wpAnyJ_one (i := 5) (by kernel_rfl) rfl (fun K5 hK5 => ?_)
                  go_simp
                  go_at_call 17
                  (with_reducible refine (HPU.out _ T2).mono ?_)
                  rintro e3 w3 ⟨⟨p3, lf3, kA3, kn3, kc3, vA3, vn3, vc3, dA3, dn3, dc3⟩, rfl, r3, b3⟩
                  unfold ndV
                  simp only
                  have T3 : Below wv.heap.size wv w3 := below_step T2 b3
                  have R3 := Lib.hid r3
                  have HT3 := Lib.hid T3
                  have H23 : Hid (wv.heap.size ≤ w2.heap.size) := Lib.hid T2.size
                  have hC3 := HCB.out w3 T3
                  have hS3 : wv.grownBy w3 (some Pb) := only_of_below T3 (Nat.le_refl _)
                  clear b3 r3
                  go_simp
                  refine hK5.out _ _ (.inr hC3) hS3 ?_
                  clear hK5 K5
                  refine wpAnyJ_one (i := 6) (by kernel_rfl) rfl (fun K5 hK5 => ?_)
                  go_simp
                  have Z7 := HX7.out.below HT3.out HX7.out.lt
                  have f0 := Z7.free 0
                  have f1 := Z7.free 1
                  have f2 := Z7.free 2
                  have f3 := Z7.free 3
                  have f4 := Z7.free 4
                  obtain ⟨q0, q1, q2, q3, q4⟩ := hC3
                  have hS4 := only_store (only_store (only_store (only_store (only_store hS3 0 (.int .i64 p3)) 1 (.bool lf3)) 2 (.slice kA3 kn3 kc3)) 3 (.slice vA3 vn3 vc3)) 4 (.slice dA3 dn3 dc3)
                  go_simp
                  refine hK5.out _ _ (.inl (by kernel_rfl)) hS4 ?_
                  clear hK5 K5
                  refine wpAnyJ_done (by kernel_rfl) ?_ _
                  refine hK _ _ ?_
                  have hMp := HM.out.put HT3.out R3.out H23.out
                  have hBp := below_st5 (below_step HBV.out HT3.out) HPB.out (.int .i64 p3) (.bool lf3) (.slice kA3 kn3 kc3) (.slice vA3 vn3 vc3) (.slice dA3 dn3 dc3)
                  unfold st5 at hMp hBp
                  simp only at hMp
                  have HMP := Lib.hid hMp
                  have HBP := Lib.hid hBp
                  clear hMp hBp hS4 Z7 f0 f1 f2 f3 f4 q0 q1 q2 q3 q4 hS3 hS2 hC2 T2 T3 T0
                  go_wp2
                  go_roundw
                  case rel => exact ⟨k + 1, ⟨p3, lf3, kA3, kn3, kc3, vA3, vn3, vc3, dA3, dn3, dc3⟩, by omega, by go_num, by rw [HTP.out]; exact HMP.out, HBP.out⟩
                  case measure => simp [intOf]; omega
                · have hkn : k = 2 * no := by omega
                  have htk : (q' ++ q').take k = q' ++ q' := List.take_of_length_le (by rw [hkn, List.length_append, HLQ.out]; omega)
                  rw [htk] at hM
                  have i1 : ¬ (k : Int) < 2 * (no : Int) := by omega
                  obtain ⟨we, hwe⟩ : ∃ we : World, we = wr := ⟨_, rfl⟩
                  subst hwe
                  have hgb := gd_bld (l := q' ++ q') (fun y hy => HQOK.out y (HPM.out.mem_iff.1 (by rcases List.mem_append.1 hy with h | h <;> exact h)))
                  have hga := gd_bld (l := q) HQOK.out
                  rw [HTA.out] at hga
                  obtain ⟨hoe, hol⟩ := orders_ent HND.out HPM.out
                  obtain ⟨tb, htb⟩ : ∃ t, bldT (q' ++ q') = t := ⟨_, rfl⟩
                  rw [htb] at hM hgb
                  obtain ⟨E, hE⟩ : ∃ E, entT ta = E := ⟨_, rfl⟩
                  have hEb : entT tb = E := by rw [hgb.2.1, hoe, ← hga.2.1, hE]
                  have hEn : E.length = no := by rw [← hE, hga.2.1, hol, HNO.out]
                  have HEN := Lib.hid hEn
                  have hMA := HMa.out.below hb
                  have HWE : Hid (Below w1.heap.size w1 we) := Lib.hid (below_step HB2.out hb)
                  have HPA := Lib.hid (fun (w' : World) (hb : Below we.heap.size we w') => hga.1.plain _ _ w' (hMA.rt.stay hb))
                  have HPBB := Lib.hid (fun (w' : World) (hb : Below we.heap.size we w') => hgb.1.plain _ _ w' (hM.rt.stay hb))
                  have HEA := Lib.hid (fun (w' : World) (F : Nat → Prop) (v : NV) (hr : RepN F w' v ta) => r15Ents_row ta F v w' hr (by rw [hE]; omega) no (by rw [hE]; exact hEn))
                  have HEB := Lib.hid (fun (w' : World) (F : Nat → Prop) (v : NV) (hr : RepN F w' v tb) => r15Ents_row tb F v w' hr (by rw [hEb]; omega) no (by rw [hEb]; exact hEn))
                  rw [hE] at HEA
                  rw [hEb] at HEB
                  have hckb : checkC tb = true := hgb.2.2.elim (fun e => by rw [e]; exact empty_check) (fun e => good_check hgb.1.good e)
                  have HCK := Lib.hid (fun (w' : World) (hb : Below we.heap.size we w') => hgb.1.check (by rw [List.length_append, HLQ.out]; omega) _ _ w' (hM.rt.stay hb))
                  rw [hckb] at HCK
                  have HCB5 : Hid (∀ w6 : World, Below we.heap.size we w6 → w6.cell? ⟨Pb, 0, none⟩ = some (.int .i64 p1) ∧ w6.cell? ⟨Pb, 1, none⟩ = some (.bool lf1) ∧ w6.cell? ⟨Pb, 2, none⟩ = some (.slice kA1 kn1 kc1) ∧ w6.cell? ⟨Pb, 3, none⟩ = some (.slice vA1 vn1 vc1) ∧ w6.cell? ⟨Pb, 4, none⟩ = some (.slice dA1 dn1 dc1)) := Lib.hid (fun w6 hb => by
                    have z := hM.b.below hb hM.b.lt
                    exact ⟨z.cell 0, z.cell 1, z.cell 2, z.cell 3, z.cell 4⟩)
                  unfold ndV at HPA HPBB HCK
                  unfold nvV at HEA HEB
                  simp only at HPA HPBB HCK
                  have x0 := hMA.b.cell 0
                  have x1 := hMA.b.cell 1
                  have x2 := hMA.b.cell 2
                  have x3 := hMA.b.cell 3
                  have x4 := hMA.b.cell 4
                  clear hkn htk hgb hga hoe hol htb hE hEb hEn hM hMA hb hckb
                  go_wp2_with (first
                    | (go_at_call 21; (with_reducible refine (HPA.out _ (Below.refl _ _)).mono ?_); rintro e2 w2 ⟨⟨v0, v1, vA, vn, vc⟩, rfl, r2, b2⟩; unfold nvV; simp only; have R2 := Lib.hid r2; have Q2 := Lib.hid b2; clear r2 b2 x0 x1 x2 x3 x4)
                    | (go_at_call 25; (with_reducible refine (HEA.out _ _ ⟨v0, v1, vA, vn, vc⟩ R2.out).mono ?_); rintro e3 w3 ⟨A1, cE1, rfl, r3, b3⟩; have R3 := Lib.hid r3; have Q3 := Lib.hid (below_step Q2.out b3); clear r3 b3; obtain ⟨z0, z1, z2, z3, z4⟩ := HCB5.out _ Q3.out)
                    | (go_at_call 21; (with_reducible refine (HPBB.out _ Q3.out).mono ?_); rintro e4 w4 ⟨⟨u0, u1, uA, un, uc⟩, rfl, r4, b4⟩; unfold nvV; simp only; have R4 := Lib.hid r4; have Q4 := Lib.hid (below_step Q3.out b4); have Q34 := Lib.hid b4; clear r4 b4 z0 z1 z2 z3 z4)
                    | (go_at_call 25; (with_reducible refine (HEB.out _ _ ⟨u0, u1, uA, un, uc⟩ R4.out).mono ?_); rintro e5 w5 ⟨A2, cE2, rfl, r5, b5⟩; have R5 := Lib.hid r5; have Q5 := Lib.hid (below_step Q4.out b5); have Q35 := Lib.hid (below_step Q34.out b5); clear r5 b5; obtain ⟨z0, z1, z2, z3, z4⟩ := HCB5.out _ Q5.out)
                    | (go_at_call 24; (with_reducible refine (HCK.out _ Q5.out).mono ?_); rintro e9 w9 ⟨rfl, b9⟩; have Q9 := Lib.hid (below_step Q5.out b9); have Q39 := Lib.hid (below_step Q35.out b9); have Q59 := Lib.hid b9; clear b9 z0 z1 z2 z3 z4))
                  have HR1 := Lib.hid (R3.out.below Q39.out)
                  have HR2 := Lib.hid (R5.out.below Q59.out)
                  have HFIN : Hid (Below W.heap.size W w9) := Lib.hid (below_step B1.out (below_step HWE.out Q9.out))
                  clear HPA HPBB HEA HEB HCK HCB5 R2 R3 R4 R5 Q2 Q3 Q34 Q4 Q5 Q35 Q9 Q39 Q59 i1
                  go_loopw [22] (fun iv wr => ∃ j : Nat, j ≤ no ∧ iv = .int .i64 (j : Int) ∧ Below w9.heap.size w9 wr) (fun iv _ => no - (intOf iv).toNat)
                  case atStart => exact ⟨0, Nat.zero_le _, rfl, Below.refl _ _⟩
                  case round =>
                    obtain ⟨j, hj, rfl, hb⟩ := hrel
                    by_cases hjl : j < no
                    · obtain ⟨x, hx⟩ : ∃ x, E[j]? = some x := ⟨_, List.getElem?_eq_getElem (by rw [HEN.out]; exact hjl)⟩
                      obtain ⟨g1, o1, rfl, _, _⟩ := ents_cell HR1.out hx
                      obtain ⟨g2, o2, rfl, _, _⟩ := ents_cell HR2.out hx
                      obtain ⟨sk, hsk⟩ : ∃ s : ByteArray, (⟨x.1.toArray⟩ : ByteArray) = s := ⟨_, rfl⟩
                      obtain ⟨sd, hsd⟩ : ∃ s : ByteArray, (⟨x.2.toArray⟩ : ByteArray) = s := ⟨_, rfl⟩
                      have HX1 : Hid (∀ w6 : World, Below w9.heap.size w9 w6 → w6.cell? ⟨g1, o1 + j * 4, none⟩ = some (.string sk) ∧ w6.cell? ⟨g1, o1 + j * 4 + 1, none⟩ = some (.string sd)) := Lib.hid (fun w6 hb6 => by
                        obtain ⟨g', o', hgg, z0, z1⟩ := ents_cell (HR1.out.below hb6) hx
                        injection hgg with hgg
                        injection hgg with e1 e2 _
                        subst e1 e2
                        rw [hsk] at z0
                        rw [hsd] at z1
                        exact ⟨z0, z1⟩)
                      have HX2 : Hid (∀ w6 : World, Below w9.heap.size w9 w6 → w6.cell? ⟨g2, o2 + j * 4, none⟩ = some (.string sk) ∧ w6.cell? ⟨g2, o2 + j * 4 + 1, none⟩ = some (.string sd)) := Lib.hid (fun w6 hb6 => by
                        obtain ⟨g', o', hgg, z0, z1⟩ := ents_cell (HR2.out.below hb6) hx
                        injection hgg with hgg
                        injection hgg with e1 e2 _
                        subst e1 e2
                        rw [hsk] at z0
                        rw [hsd] at z1
                        exact ⟨z0, z1⟩)
                      have j0 : (0 : Int) ≤ (j : Int) := by omega
                      have j1 : (j : Int) < (no : Int) := by omega
                      have U0 : Below w9.heap.size w9 wr.drew := hb.drew
                      clear hx hsk hsd hb
                      go_wp2
                      first | (rename_i K hK; refine wp_held (fun w6 : World => Below w9.heap.size w9 w6) K hmx ?_ (fun _ _ h => h)) | (rename_i K hK hz; refine wp_held (fun w6 : World => Below w9.heap.size w9 w6) K hmx ?_ (fun _ _ h => h))
                      obtain ⟨Wd, hWd⟩ : ∃ X, wr.drew = X := ⟨_, rfl⟩
                      rw [hWd] at U0 ⊢
                      clear hWd
                      refine wpAnyH_take (i := 0) (v := .slice (some ⟨g1, o1, none⟩) no cE1) (lit rfl) (by kernel_rfl) (by kernel_rfl) (by kernel_rfl) (fun _ _ _ h => h) (Or.inl ⟨by rfl, ?_⟩) U0 ?_
                      · rintro w6 hb6
                        go_simp
                      simp only [Act.put, List.setIfInBounds_toArray, List.set_cons_zero, List.set_cons_succ]
                      refine wpAnyH_take (i := 1) (v := .int .i64 (j : Int)) (lit rfl) (by kernel_rfl) (by kernel_rfl) (by kernel_rfl) (fun _ _ _ h => h) (Or.inl ⟨by rfl, ?_⟩) U0 ?_
                      · rintro w6 hb6
                        go_simp
                      simp only [Act.put, List.setIfInBounds_toArray, List.set_cons_zero, List.set_cons_succ]
                      refine wpAnyH_take (i := 2) (v := .pointer (some ⟨g1, o1 + j * 4, none⟩)) (lit rfl) (by kernel_rfl) (by kernel_rfl) (by kernel_rfl) (fun _ _ _ h => h) (Or.inl ⟨by rfl, ?_⟩) U0 ?_
                      · rintro w6 hb6
                        go_simp
                      simp only [Act.put, List.setIfInBounds_toArray, List.set_cons_zero, List.set_cons_succ]
                      refine wpAnyH_take (i := 3) (v := .pointer (some ⟨g1, o1 + j * 4, none⟩)) (lit rfl) (by kernel_rfl) (by kernel_rfl) (by kernel_rfl) (fun _ _ _ h => h) (Or.inl ⟨by rfl, ?_⟩) U0 ?_
                      · rintro w6 hb6
                        go_simp
                      simp only [Act.put, List.setIfInBounds_toArray, List.set_cons_zero, List.set_cons_succ]
                      refine wpAnyH_take (i := 4) (v := .string sk) (lit rfl) (by kernel_rfl) (by kernel_rfl) (by kernel_rfl) (fun _ _ _ h => h) (Or.inl ⟨by rfl, ?_⟩) U0 ?_
                      · rintro w6 hb6
                        obtain ⟨y60, y61⟩ := HX1.out w6 hb6
                        go_simp
                      simp only [Act.put, List.setIfInBounds_toArray, List.set_cons_zero, List.set_cons_succ]
                      refine wpAnyH_take (i := 5) (v := .slice (some ⟨g2, o2, none⟩) no cE2) (lit rfl) (by kernel_rfl) (by kernel_rfl) (by kernel_rfl) (fun _ _ _ h => h) (Or.inl ⟨by rfl, ?_⟩) U0 ?_
                      · rintro w6 hb6
                        go_simp
                      simp only [Act.put, List.setIfInBounds_toArray, List.set_cons_zero, List.set_cons_succ]
                      refine wpAnyH_take (i := 6) (v := .int .i64 (j : Int)) (lit rfl) (by kernel_rfl) (by kernel_rfl) (by kernel_rfl) (fun _ _ _ h => h) (Or.inl ⟨by rfl, ?_⟩) U0 ?_
                      · rintro w6 hb6
                        go_simp
                      simp only [Act.put, List.setIfInBounds_toArray, List.set_cons_zero, List.set_cons_succ]
                      refine wpAnyH_take (i := 7) (v := .pointer (some ⟨g2, o2 + j * 4, none⟩)) (lit rfl) (by kernel_rfl) (by kernel_rfl) (by kernel_rfl) (fun _ _ _ h => h) (Or.inl ⟨by rfl, ?_⟩) U0 ?_
                      · rintro w6 hb6
                        go_simp
                      simp only [Act.put, List.setIfInBounds_toArray, List.set_cons_zero, List.set_cons_succ]
                      refine wpAnyH_take (i := 8) (v := .pointer (some ⟨g2, o2 + j * 4, none⟩)) (lit rfl) (by kernel_rfl) (by kernel_rfl) (by kernel_rfl) (fun _ _ _ h => h) (Or.inl ⟨by rfl, ?_⟩) U0 ?_
                      · rintro w6 hb6
                        go_simp
                      simp only [Act.put, List.setIfInBounds_toArray, List.set_cons_zero, List.set_cons_succ]
                      refine wpAnyH_take (i := 9) (v := .string sk) (lit rfl) (by kernel_rfl) (by kernel_rfl) (by kernel_rfl) (fun _ _ _ h => h) (Or.inl ⟨by rfl, ?_⟩) U0 ?_
                      · rintro w6 hb6
                        obtain ⟨y60, y61⟩ := HX2.out w6 hb6
                        go_simp
                      simp only [Act.put, List.setIfInBounds_toArray, List.set_cons_zero, List.set_cons_succ]
                      refine wpAnyH_take (i := 10) (v := .bool false) (lit rfl) (by kernel_rfl) (by kernel_rfl) (by kernel_rfl) (fun _ _ _ h => h) (Or.inl ⟨by rfl, ?_⟩) U0 ?_
                      · rintro w6 hb6
                        go_simp
                      simp only [Act.put, List.setIfInBounds_toArray, List.set_cons_zero, List.set_cons_succ]
                      refine wpAnyH_take (i := 11) (v := .bool false) (lit rfl) (by kernel_rfl) (by kernel_rfl) (by kernel_rfl) (fun _ _ _ h => h) (Or.inl ⟨by rfl, ?_⟩) U0 ?_
                      · rintro w6 hb6
                        go_simp
                      simp only [Act.put, List.setIfInBounds_toArray, List.set_cons_zero, List.set_cons_succ]
                      refine wpAnyH_take (i := 12) (v := .slice (some ⟨g1, o1, none⟩) no cE1) (lit rfl) (by kernel_rfl) (by kernel_rfl) (by kernel_rfl) (fun _ _ _ h => h) (Or.inl ⟨by rfl, ?_⟩) U0 ?_
                      · rintro w6 hb6
                        go_simp
                      simp only [Act.put, List.setIfInBounds_toArray, List.set_cons_zero, List.set_cons_succ]
                      refine wpAnyH_take (i := 13) (v := .int .i64 (j : Int)) (lit rfl) (by kernel_rfl) (by kernel_rfl) (by kernel_rfl) (fun _ _ _ h => h) (Or.inl ⟨by rfl, ?_⟩) U0 ?_
                      · rintro w6 hb6
                        go_simp
                      simp only [Act.put, List.setIfInBounds_toArray, List.set_cons_zero, List.set_cons_succ]
                      refine wpAnyH_take (i := 14) (v := .pointer (some ⟨g1, o1 + j * 4, none⟩)) (lit rfl) (by kernel_rfl) (by kernel_rfl) (by kernel_rfl) (fun _ _ _ h => h) (Or.inl ⟨by rfl, ?_⟩) U0 ?_
                      · rintro w6 hb6
                        go_simp
                      simp only [Act.put, List.setIfInBounds_toArray, List.set_cons_zero, List.set_cons_succ]
                      refine wpAnyH_take (i := 15) (v := .pointer (some ⟨g1, o1 + j * 4 + 1, none⟩)) (lit rfl) (by kernel_rfl) (by kernel_rfl) (by kernel_rfl) (fun _ _ _ h => h) (Or.inl ⟨by rfl, ?_⟩) U0 ?_
                      · rintro w6 hb6
                        go_simp
                      simp only [Act.put, List.setIfInBounds_toArray, List.set_cons_zero, List.set_cons_succ]
                      refine wpAnyH_take (i := 16) (v := .pointer (some ⟨g1, o1 + j * 4 + 1, none⟩)) (lit rfl) (by kernel_rfl) (by kernel_rfl) (by kernel_rfl) (fun _ _ _ h => h) (Or.inl ⟨by rfl, ?_⟩) U0 ?_
                      · rintro w6 hb6
                        go_simp
                      simp only [Act.put, List.setIfInBounds_toArray, List.set_cons_zero, List.set_cons_succ]
                      refine wpAnyH_take (i := 17) (v := .string sd) (lit rfl) (by kernel_rfl) (by kernel_rfl) (by kernel_rfl) (fun _ _ _ h => h) (Or.inl ⟨by rfl, ?_⟩) U0 ?_
                      · rintro w6 hb6
                        obtain ⟨y60, y61⟩ := HX1.out w6 hb6
                        go_simp
                      simp only [Act.put, List.setIfInBounds_toArray, List.set_cons_zero, List.set_cons_succ]
                      refine wpAnyH_take (i := 18) (v := .slice (some ⟨g2, o2, none⟩) no cE2) (lit rfl) (by kernel_rfl) (by kernel_rfl) (by kernel_rfl) (fun _ _ _ h => h) (Or.inl ⟨by rfl, ?_⟩) U0 ?_
                      · rintro w6 hb6
                        go_simp
                      simp only [Act.put, List.setIfInBounds_toArray, List.set_cons_zero, List.set_cons_succ]
                      refine wpAnyH_take (i := 19) (v := .int .i64 (j : Int)) (lit rfl) (by kernel_rfl) (by kernel_rfl) (by kernel_rfl) (fun _ _ _ h => h) (Or.inl ⟨by rfl, ?_⟩) U0 ?_
                      · rintro w6 hb6
                        go_simp
                      simp only [Act.put, List.setIfInBounds_toArray, List.set_cons_zero, List.set_cons_succ]
                      refine wpAnyH_take (i := 20) (v := .pointer (some ⟨g2, o2 + j * 4, none⟩)) (lit rfl) (by kernel_rfl) (by kernel_rfl) (by kernel_rfl) (fun _ _ _ h => h) (Or.inl ⟨by rfl, ?_⟩) U0 ?_
                      · rintro w6 hb6
                        go_simp
                      simp only [Act.put, List.setIfInBounds_toArray, List.set_cons_zero, List.set_cons_succ]
                      refine wpAnyH_take (i := 21) (v := .pointer (some ⟨g2, o2 + j * 4 + 1, none⟩)) (lit rfl) (by kernel_rfl) (by kernel_rfl) (by kernel_rfl) (fun _ _ _ h => h) (Or.inl ⟨by rfl, ?_⟩) U0 ?_
                      · rintro w6 hb6
                        go_simp
                      simp only [Act.put, List.setIfInBounds_toArray, List.set_cons_zero, List.set_cons_succ]
                      refine wpAnyH_take (i := 22) (v := .pointer (some ⟨g2, o2 + j * 4 + 1, none⟩)) (lit rfl) (by kernel_rfl) (by kernel_rfl) (by kernel_rfl) (fun _ _ _ h => h) (Or.inl ⟨by rfl, ?_⟩) U0 ?_
                      · rintro w6 hb6
                        go_simp
                      simp only [Act.put, List.setIfInBounds_toArray, List.set_cons_zero, List.set_cons_succ]
                      refine wpAnyH_take (i := 23) (v := .string sd) (lit rfl) (by kernel_rfl) (by kernel_rfl) (by kernel_rfl) (fun _ _ _ h => h) (Or.inl ⟨by rfl, ?_⟩) U0 ?_
                      · rintro w6 hb6
                        obtain ⟨y60, y61⟩ := HX2.out w6 hb6
                        go_simp
                      simp only [Act.put, List.setIfInBounds_toArray, List.set_cons_zero, List.set_cons_succ]
                      refine wpAnyH_take (i := 24) (v := .bool false) (lit rfl) (by kernel_rfl) (by kernel_rfl) (by kernel_rfl) (fun _ _ _ h => h) (Or.inl ⟨by rfl, ?_⟩) U0 ?_
                      · rintro w6 hb6
                        go_simp
                      simp only [Act.put, List.setIfInBounds_toArray, List.set_cons_zero, List.set_cons_succ]
                      refine wpAnyH_take (i := 25) (v := .bool false) (lit rfl) (by kernel_rfl) (by kernel_rfl) (by kernel_rfl) (fun _ _ _ h => h) (Or.inl ⟨by rfl, ?_⟩) U0 ?_
                      · rintro w6 hb6
                        go_simp
                      simp only [Act.put, List.setIfInBounds_toArray, List.set_cons_zero, List.set_cons_succ]
                      refine wpAnyH_done (by kernel_rfl) ?_ _
                      refine hK _ _ ?_
                      go_wp2
                      go_roundw
                      case rel => exact ⟨j + 1, by omega, by go_num, U0⟩
                      case measure => simp [intOf]; omega
                    · have j1 : ¬ (j : Int) < (no : Int) := by omega
                      have HFE := Lib.hid (below_step HFIN.out hb)
                      clear hb
                      go_wp2
                      go_ret
                      exact ⟨rfl, HFE.out⟩
end Go.Proofs.Ytpaklhifnndeoaa
