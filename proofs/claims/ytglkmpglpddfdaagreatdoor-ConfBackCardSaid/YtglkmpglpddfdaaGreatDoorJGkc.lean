import Derived.Test.YtglkmpglpddfdaaGreatDoorJ23
import Derived.Test.YtglkmpglpddfdaaGreatDoorJ11
/- Of a claim's texts, joined: Gkc. No statement but in the last. -/
namespace Go.Proofs.YtglkmpglpddfdaaGreatDoor
open Go.RowKit
set_option linter.unusedVariables false

set_option maxRecDepth 100000 in
set_option maxHeartbeats 2000000 in
theorem gCheck_any (up : List Nat) (A B : Option Addr) (n c m d : Nat) (l : List G) (w : World) (ht : Base4 w) (L : IsLat up) (hu : ArgU w A n c up) (hl : ArgG w B m d l) (hm : m ≤ 9223372036854775807) :
    Calls Tryz.prog 36 #[.slice A n c, .slice B m d] w (BoolEnd (checkG up l) w) := by
  have HU := Lib.hid hu
  have HA := Lib.hid hl
  have HN := Lib.hid hl.len
  clear hu hl
  by_cases h64 : 64 < m
  · have e1 : decide (64 < (m : Int)) = true := by simp; omega
    have HE : Hid (checkG up l = false) := Lib.hid (by
      unfold checkG
      have : decide (l.length ≤ 64) = false := by have := HN.out; simp; omega
      rw [this]
      rfl)
    go_enter Tryz.func36, Tryz.ntmps36
    go_wp2
    go_ret
    exact ⟨ret_bool HE.out.symm, Below.refl _ _⟩
  · have e1 : decide (64 < (m : Int)) = false := by simp; omega
    go_enter Tryz.func36, Tryz.ntmps36
    go_wp2
    go_loopw [12] (fun i wr => ∃ k : Nat, k ≤ m ∧ i = .int .i64 k ∧ (∀ j, j < k → okG up l j = true) ∧ Below w.heap.size w wr) (fun i _ => m - (intOf i).toNat)
    case atStart => exact ⟨0, Nat.zero_le _, rfl, fun j h => absurd h (by omega), Below.refl _ _⟩
    case round =>
      obtain ⟨k, hk, rfl, hj, hB⟩ := hrel
      have HJ := Lib.hid hj
      have BW := Lib.hid hB
      clear hj hB
      by_cases hlt : k < m
      · have hkl : k < l.length := by have := HN.out; omega
        have HC := Lib.hid (fun w1 (h1 : Below w.heap.size w w1) => (HA.out.below h1).reads.gat hkl)
        obtain ⟨b, off, rfl, c1, c2, c3⟩ := HC.out wr BW.out
        have HFit := Lib.hid (fun w1 (h1 : Below w.heap.size w w1) (v : Bool) (hv : fitsG up l[k] = v) => show Calls Tryz.prog 69 #[.slice A n c, .agg #[.int .i64 l[k].a, .int .i64 l[k].f, .int .i64 l[k].t]] w1 (BoolEnd v w1) by
          have := gFits_any up A n c l[k] w1 trivial L (HU.out.below h1)
          rwa [hv] at this)
        have i0 : (0 : Int) ≤ (k : Int) := by omega
        have i1 : (k : Int) < (m : Int) := by omega
        have HOK : Hid (okG up l k = (fitsG up l[k] && (decide (k = 0) || lessG (l.getD (k - 1) g0) l[k]))) := Lib.hid (by unfold okG; rw [getG_at l k hkl])
        have HNo := Lib.hid (fun h => checkG_no (up := up) hkl h)
        have HYes : Hid (okG up l k = true → ∀ j, j < k + 1 → okG up l j = true) := Lib.hid (fun h j hj => by
          by_cases e : j = k
          · subst e; exact h
          · exact HJ.out j (by omega))
        have HBo := Lib.hid (fun w1 (h1 : Below (wr.alloc (.cells #[.int .i64 l[k].a, .int .i64 l[k].f, .int .i64 l[k].t] 45)).heap.size (wr.alloc (.cells #[.int .i64 l[k].a, .int .i64 l[k].f, .int .i64 l[k].t] 45)) w1) => (two_boxes (Has.made wr 45 #[.int .i64 l[k].a, .int .i64 l[k].f, .int .i64 l[k].t]) (Has.made wr 45 #[.int .i64 l[k].a, .int .i64 l[k].f, .int .i64 l[k].t]) h1).1)
        have BA := Lib.hid (below_alloc' BW.out (.cells #[.int .i64 l[k].a, .int .i64 l[k].f, .int .i64 l[k].t] 45))
        obtain ⟨W, hW⟩ : ∃ W, wr.alloc (.cells #[.int .i64 l[k].a, .int .i64 l[k].f, .int .i64 l[k].t] 45) = W := ⟨_, rfl⟩
        rw [hW] at HBo BA
        have BD : Below W.heap.size W W.drew := (Below.refl _ _).drew
        obtain ⟨v, hv⟩ : ∃ v, okG up l k = v := ⟨_, rfl⟩
        rw [hv] at HOK HNo HYes
        have HV := Lib.hid hv
        clear hv
        have HLs : Hid (∀ j, k = j + 1 → ∃ y : G, l.getD (k - 1) g0 = y ∧ (∀ w1, Calls Tryz.prog 21 #[.agg #[.int .i64 y.a, .int .i64 y.f, .int .i64 y.t], .agg #[.int .i64 l[k].a, .int .i64 l[k].f, .int .i64 l[k].t]] w1 (BoolEnd (lessG y l[k]) w1)) ∧ ∀ w1, Below W.heap.size W w1 → w1.cell? ⟨b, off + j * 3, none⟩ = some (.int .i64 y.a) ∧ w1.cell? ⟨b, off + j * 3 + 1, none⟩ = some (.int .i64 y.f) ∧ w1.cell? ⟨b, off + j * 3 + 2, none⟩ = some (.int .i64 y.t)) := Lib.hid (fun j hj => by
          subst hj
          have hjl : j < l.length := by omega
          refine ⟨l[j], by rw [Nat.add_sub_cancel]; exact getG_at l j hjl, fun w1 => gLess_any l[j] l[j + 1] w1 trivial, fun w1 h1 => ?_⟩
          · obtain ⟨b2, off2, hA2, h2⟩ := (HA.out.below (below_step BA.out h1)).reads.gat hjl
            injection hA2 with hA2
            injection hA2 with q5 q6
            subst q5 q6
            exact h2)
        generalize hxk : l[k] = x at c1 c2 c3 HFit HOK HBo hW HLs
        clear hxk hkl HC
        have hmx : Tryz.prog.follows .mixedOrders = true := by kernel_rfl
        go_wp2
        try rw [hW]
        refine wp_cut (fun act W2 => ∃ y17 y18 y19 y20 y21 y22 y23 y24 y25 y26 y27 y28 y29 y30 y31 y32 y33 : Value, act = { tmps := #[.slice A n c, .slice (some ⟨b, off, none⟩) m d, undef, undef, u4, .int .i64 ((k : Nat) : Int), .pointer (some ⟨wr.heap.size, 0, none⟩), .slice (some ⟨b, off, none⟩) m d, .int .i64 m, .bool false, .slice (some ⟨b, off, none⟩) m d, .int .i64 m, .int .i64 ((k : Nat) : Int), .bool true, .int .i64 ((k : Nat) : Int), .pointer (some ⟨b, off + (k) * 3, none⟩), .agg #[.int .i64 x.a, .int .i64 x.f, .int .i64 x.t], y17, y18, y19, y20, y21, y22, y23, y24, y25, y26, y27, y28, y29, y30, y31, y32, y33, .bool (!v), u35], defers := [] } ∧ Below W.heap.size W W2) ?_ ?_
        · cases hf : fitsG up x
          · obtain rfl : v = false := by rw [HOK.out, hf]; rfl
            have Q1 := Lib.hid (fun w1 h1 => HFit.out w1 h1 false hf)
            have hS := HBo.out _ BD
            refine wp_held (fun w' : World => w'.cell? ⟨wr.heap.size, 0, none⟩ = some (.int .i64 x.a) ∧ w'.cell? ⟨wr.heap.size, 1, none⟩ = some (.int .i64 x.f) ∧ w'.cell? ⟨wr.heap.size, 2, none⟩ = some (.int .i64 x.t)) _ hmx ?_ (fun _ _ h => h)
            refine wpAnyH_take (i := 0) (v := .slice A n c) rfl (by kernel_rfl) (by kernel_rfl) (by kernel_rfl) (fun _ _ _ h => h) (Or.inl ⟨by rfl, ?_⟩) hS ?_
            · rintro w6 ⟨b1, b2, b3⟩
              go_simp
            simp only [Act.put, List.setIfInBounds_toArray, List.set_cons_zero, List.set_cons_succ, List.getElem_toArray, List.getElem_cons_zero]
            refine wpAnyH_take (i := 1) (v := .agg #[.int .i64 x.a, .int .i64 x.f, .int .i64 x.t]) rfl (by kernel_rfl) (by kernel_rfl) (by kernel_rfl) (fun _ _ _ h => h) (Or.inl ⟨by rfl, ?_⟩) hS ?_
            · rintro w6 ⟨b1, b2, b3⟩
              go_simp
            simp only [Act.put, List.setIfInBounds_toArray, List.set_cons_zero, List.set_cons_succ, List.getElem_toArray, List.getElem_cons_zero, List.getElem_cons_succ]
            refine wpAnyH_ready (rs := [2]) (by kernel_rfl) (by simp) ?_
            refine AllReadyH.cons rfl (fun K5 hK5 => ?_) AllReadyH.nil
            go_simp
            go_at_call 69
            refine (Q1.out _ (below_step BA.out BD)).mono ?_
            rintro e w1 ⟨rfl, h1⟩
            have B1 := Lib.hid (below_step BD h1)
            have hS1 : (fun w' : World => w'.cell? ⟨wr.heap.size, 0, none⟩ = some (.int .i64 x.a) ∧ w'.cell? ⟨wr.heap.size, 1, none⟩ = some (.int .i64 x.f) ∧ w'.cell? ⟨wr.heap.size, 2, none⟩ = some (.int .i64 x.t)) w1 := HBo.out _ B1.out
            refine hK5.out _ _ hS1 (fun _ => ?_)
            clear hK5 K5
            refine wpAnyH_take (i := 3) (v := .bool true) rfl (by kernel_rfl) (by kernel_rfl) (by kernel_rfl) (fun _ _ _ h => h) (Or.inl ⟨by rfl, ?_⟩) hS1 ?_
            · rintro w6 ⟨b1, b2, b3⟩
              go_simp
            simp only [Act.put, List.setIfInBounds_toArray, List.set_cons_zero, List.set_cons_succ, List.getElem_toArray, List.getElem_cons_zero, List.getElem_cons_succ]
            refine wpAnyH_take (i := 4) (v := .bool true) rfl (by kernel_rfl) (by kernel_rfl) (by kernel_rfl) (fun _ _ _ h => h) (Or.inl ⟨by rfl, ?_⟩) hS1 ?_
            · rintro w6 ⟨b1, b2, b3⟩
              go_simp
            simp only [Act.put, List.setIfInBounds_toArray, List.set_cons_zero, List.set_cons_succ, List.getElem_toArray, List.getElem_cons_zero, List.getElem_cons_succ]
            refine wpAnyH_take (i := 5) (v := undef) rfl (by kernel_rfl) (by kernel_rfl) (by kernel_rfl) (fun _ _ _ h => h) (Or.inr ⟨by rfl, rfl⟩) hS1 ?_
            simp only [Act.put, List.setIfInBounds_toArray, List.set_cons_zero, List.set_cons_succ, List.getElem_toArray, List.getElem_cons_zero, List.getElem_cons_succ]
            refine wpAnyH_take (i := 6) (v := undef) rfl (by kernel_rfl) (by kernel_rfl) (by kernel_rfl) (fun _ _ _ h => h) (Or.inr ⟨by rfl, rfl⟩) hS1 ?_
            simp only [Act.put, List.setIfInBounds_toArray, List.set_cons_zero, List.set_cons_succ, List.getElem_toArray, List.getElem_cons_zero, List.getElem_cons_succ]
            refine wpAnyH_take (i := 7) (v := undef) rfl (by kernel_rfl) (by kernel_rfl) (by kernel_rfl) (fun _ _ _ h => h) (Or.inr ⟨by rfl, rfl⟩) hS1 ?_
            simp only [Act.put, List.setIfInBounds_toArray, List.set_cons_zero, List.set_cons_succ, List.getElem_toArray, List.getElem_cons_zero, List.getElem_cons_succ]
            refine wpAnyH_take (i := 8) (v := undef) rfl (by kernel_rfl) (by kernel_rfl) (by kernel_rfl) (fun _ _ _ h => h) (Or.inr ⟨by rfl, rfl⟩) hS1 ?_
            simp only [Act.put, List.setIfInBounds_toArray, List.set_cons_zero, List.set_cons_succ, List.getElem_toArray, List.getElem_cons_zero, List.getElem_cons_succ]
            refine wpAnyH_take (i := 9) (v := undef) rfl (by kernel_rfl) (by kernel_rfl) (by kernel_rfl) (fun _ _ _ h => h) (Or.inr ⟨by rfl, rfl⟩) hS1 ?_
            simp only [Act.put, List.setIfInBounds_toArray, List.set_cons_zero, List.set_cons_succ, List.getElem_toArray, List.getElem_cons_zero, List.getElem_cons_succ]
            refine wpAnyH_take (i := 10) (v := undef) rfl (by kernel_rfl) (by kernel_rfl) (by kernel_rfl) (fun _ _ _ h => h) (Or.inr ⟨by rfl, rfl⟩) hS1 ?_
            simp only [Act.put, List.setIfInBounds_toArray, List.set_cons_zero, List.set_cons_succ, List.getElem_toArray, List.getElem_cons_zero, List.getElem_cons_succ]
            refine wpAnyH_take (i := 11) (v := undef) rfl (by kernel_rfl) (by kernel_rfl) (by kernel_rfl) (fun _ _ _ h => h) (Or.inr ⟨by rfl, rfl⟩) hS1 ?_
            simp only [Act.put, List.setIfInBounds_toArray, List.set_cons_zero, List.set_cons_succ, List.getElem_toArray, List.getElem_cons_zero, List.getElem_cons_succ]
            refine wpAnyH_take (i := 12) (v := undef) rfl (by kernel_rfl) (by kernel_rfl) (by kernel_rfl) (fun _ _ _ h => h) (Or.inr ⟨by rfl, rfl⟩) hS1 ?_
            simp only [Act.put, List.setIfInBounds_toArray, List.set_cons_zero, List.set_cons_succ, List.getElem_toArray, List.getElem_cons_zero, List.getElem_cons_succ]
            refine wpAnyH_take (i := 13) (v := undef) rfl (by kernel_rfl) (by kernel_rfl) (by kernel_rfl) (fun _ _ _ h => h) (Or.inr ⟨by rfl, rfl⟩) hS1 ?_
            simp only [Act.put, List.setIfInBounds_toArray, List.set_cons_zero, List.set_cons_succ, List.getElem_toArray, List.getElem_cons_zero, List.getElem_cons_succ]
            refine wpAnyH_take (i := 14) (v := undef) rfl (by kernel_rfl) (by kernel_rfl) (by kernel_rfl) (fun _ _ _ h => h) (Or.inr ⟨by rfl, rfl⟩) hS1 ?_
            simp only [Act.put, List.setIfInBounds_toArray, List.set_cons_zero, List.set_cons_succ, List.getElem_toArray, List.getElem_cons_zero, List.getElem_cons_succ]
            refine wpAnyH_take (i := 15) (v := undef) rfl (by kernel_rfl) (by kernel_rfl) (by kernel_rfl) (fun _ _ _ h => h) (Or.inr ⟨by rfl, rfl⟩) hS1 ?_
            simp only [Act.put, List.setIfInBounds_toArray, List.set_cons_zero, List.set_cons_succ, List.getElem_toArray, List.getElem_cons_zero, List.getElem_cons_succ]
            refine wpAnyH_take (i := 16) (v := undef) rfl (by kernel_rfl) (by kernel_rfl) (by kernel_rfl) (fun _ _ _ h => h) (Or.inr ⟨by rfl, rfl⟩) hS1 ?_
            simp only [Act.put, List.setIfInBounds_toArray, List.set_cons_zero, List.set_cons_succ, List.getElem_toArray, List.getElem_cons_zero, List.getElem_cons_succ]
            refine wpAnyH_take (i := 17) (v := .bool true) rfl (by kernel_rfl) (by kernel_rfl) (by kernel_rfl) (fun _ _ _ h => h) (Or.inl ⟨by rfl, ?_⟩) hS1 ?_
            · rintro w6 ⟨b1, b2, b3⟩
              go_simp
            simp only [Act.put, List.setIfInBounds_toArray, List.set_cons_zero, List.set_cons_succ, List.getElem_toArray, List.getElem_cons_zero, List.getElem_cons_succ]
            exact wpAnyH_done (by kernel_rfl) ⟨_, _, _, _, _, _, _, _, _, _, _, _, _, _, _, _, _, rfl, B1.out⟩ _
          · have Q1 := Lib.hid (fun w1 h1 => HFit.out w1 h1 true hf)
            rcases k with _ | j
            · obtain rfl : v = true := by rw [HOK.out, hf]; rfl
              have hS := HBo.out _ BD
              refine wp_held (fun w' : World => w'.cell? ⟨wr.heap.size, 0, none⟩ = some (.int .i64 x.a) ∧ w'.cell? ⟨wr.heap.size, 1, none⟩ = some (.int .i64 x.f) ∧ w'.cell? ⟨wr.heap.size, 2, none⟩ = some (.int .i64 x.t)) _ hmx ?_ (fun _ _ h => h)
              refine wpAnyH_take (i := 0) (v := .slice A n c) rfl (by kernel_rfl) (by kernel_rfl) (by kernel_rfl) (fun _ _ _ h => h) (Or.inl ⟨by rfl, ?_⟩) hS ?_
              · rintro w6 ⟨b1, b2, b3⟩
                go_simp
              simp only [Act.put, List.setIfInBounds_toArray, List.set_cons_zero, List.set_cons_succ, List.getElem_toArray, List.getElem_cons_zero]
              refine wpAnyH_take (i := 1) (v := .agg #[.int .i64 x.a, .int .i64 x.f, .int .i64 x.t]) rfl (by kernel_rfl) (by kernel_rfl) (by kernel_rfl) (fun _ _ _ h => h) (Or.inl ⟨by rfl, ?_⟩) hS ?_
              · rintro w6 ⟨b1, b2, b3⟩
                go_simp
              simp only [Act.put, List.setIfInBounds_toArray, List.set_cons_zero, List.set_cons_succ, List.getElem_toArray, List.getElem_cons_zero, List.getElem_cons_succ]
              refine wpAnyH_ready (rs := [2]) (by kernel_rfl) (by simp) ?_
              refine AllReadyH.cons rfl (fun K5 hK5 => ?_) AllReadyH.nil
              go_simp
              go_at_call 69
              refine (Q1.out _ (below_step BA.out BD)).mono ?_
              rintro e w1 ⟨rfl, h1⟩
              have B1 := Lib.hid (below_step BD h1)
              have hS1 : (fun w' : World => w'.cell? ⟨wr.heap.size, 0, none⟩ = some (.int .i64 x.a) ∧ w'.cell? ⟨wr.heap.size, 1, none⟩ = some (.int .i64 x.f) ∧ w'.cell? ⟨wr.heap.size, 2, none⟩ = some (.int .i64 x.t)) w1 := HBo.out _ B1.out
              refine hK5.out _ _ hS1 (fun _ => ?_)
              clear hK5 K5
              refine wpAnyH_take (i := 3) (v := .bool false) rfl (by kernel_rfl) (by kernel_rfl) (by kernel_rfl) (fun _ _ _ h => h) (Or.inl ⟨by rfl, ?_⟩) hS1 ?_
              · rintro w6 ⟨b1, b2, b3⟩
                go_simp
              simp only [Act.put, List.setIfInBounds_toArray, List.set_cons_zero, List.set_cons_succ, List.getElem_toArray, List.getElem_cons_zero, List.getElem_cons_succ]
              refine wpAnyH_take (i := 4) (v := .bool false) rfl (by kernel_rfl) (by kernel_rfl) (by kernel_rfl) (fun _ _ _ h => h) (Or.inl ⟨by rfl, ?_⟩) hS1 ?_
              · rintro w6 ⟨b1, b2, b3⟩
                go_simp
              simp only [Act.put, List.setIfInBounds_toArray, List.set_cons_zero, List.set_cons_succ, List.getElem_toArray, List.getElem_cons_zero, List.getElem_cons_succ]
              refine wpAnyH_take (i := 5) (v := .int .i64 ((0 : Nat) : Int)) rfl (by kernel_rfl) (by kernel_rfl) (by kernel_rfl) (fun _ _ _ h => h) (Or.inl ⟨by rfl, ?_⟩) hS1 ?_
              · rintro w6 ⟨b1, b2, b3⟩
                go_simp
              simp only [Act.put, List.setIfInBounds_toArray, List.set_cons_zero, List.set_cons_succ, List.getElem_toArray, List.getElem_cons_zero, List.getElem_cons_succ]
              refine wpAnyH_take (i := 6) (v := .bool false) rfl (by kernel_rfl) (by kernel_rfl) (by kernel_rfl) (fun _ _ _ h => h) (Or.inl ⟨by rfl, ?_⟩) hS1 ?_
              · rintro w6 ⟨b1, b2, b3⟩
                go_simp
              simp only [Act.put, List.setIfInBounds_toArray, List.set_cons_zero, List.set_cons_succ, List.getElem_toArray, List.getElem_cons_zero, List.getElem_cons_succ]
              refine wpAnyH_take (i := 7) (v := .bool false) rfl (by kernel_rfl) (by kernel_rfl) (by kernel_rfl) (fun _ _ _ h => h) (Or.inl ⟨by rfl, ?_⟩) hS1 ?_
              · rintro w6 ⟨b1, b2, b3⟩
                go_simp
              simp only [Act.put, List.setIfInBounds_toArray, List.set_cons_zero, List.set_cons_succ, List.getElem_toArray, List.getElem_cons_zero, List.getElem_cons_succ]
              refine wpAnyH_take (i := 8) (v := undef) rfl (by kernel_rfl) (by kernel_rfl) (by kernel_rfl) (fun _ _ _ h => h) (Or.inr ⟨by rfl, rfl⟩) hS1 ?_
              simp only [Act.put, List.setIfInBounds_toArray, List.set_cons_zero, List.set_cons_succ, List.getElem_toArray, List.getElem_cons_zero, List.getElem_cons_succ]
              refine wpAnyH_take (i := 9) (v := undef) rfl (by kernel_rfl) (by kernel_rfl) (by kernel_rfl) (fun _ _ _ h => h) (Or.inr ⟨by rfl, rfl⟩) hS1 ?_
              simp only [Act.put, List.setIfInBounds_toArray, List.set_cons_zero, List.set_cons_succ, List.getElem_toArray, List.getElem_cons_zero, List.getElem_cons_succ]
              refine wpAnyH_take (i := 10) (v := undef) rfl (by kernel_rfl) (by kernel_rfl) (by kernel_rfl) (fun _ _ _ h => h) (Or.inr ⟨by rfl, rfl⟩) hS1 ?_
              simp only [Act.put, List.setIfInBounds_toArray, List.set_cons_zero, List.set_cons_succ, List.getElem_toArray, List.getElem_cons_zero, List.getElem_cons_succ]
              refine wpAnyH_take (i := 11) (v := undef) rfl (by kernel_rfl) (by kernel_rfl) (by kernel_rfl) (fun _ _ _ h => h) (Or.inr ⟨by rfl, rfl⟩) hS1 ?_
              simp only [Act.put, List.setIfInBounds_toArray, List.set_cons_zero, List.set_cons_succ, List.getElem_toArray, List.getElem_cons_zero, List.getElem_cons_succ]
              refine wpAnyH_take (i := 12) (v := undef) rfl (by kernel_rfl) (by kernel_rfl) (by kernel_rfl) (fun _ _ _ h => h) (Or.inr ⟨by rfl, rfl⟩) hS1 ?_
              simp only [Act.put, List.setIfInBounds_toArray, List.set_cons_zero, List.set_cons_succ, List.getElem_toArray, List.getElem_cons_zero, List.getElem_cons_succ]
              refine wpAnyH_take (i := 13) (v := undef) rfl (by kernel_rfl) (by kernel_rfl) (by kernel_rfl) (fun _ _ _ h => h) (Or.inr ⟨by rfl, rfl⟩) hS1 ?_
              simp only [Act.put, List.setIfInBounds_toArray, List.set_cons_zero, List.set_cons_succ, List.getElem_toArray, List.getElem_cons_zero, List.getElem_cons_succ]
              refine wpAnyH_take (i := 14) (v := undef) rfl (by kernel_rfl) (by kernel_rfl) (by kernel_rfl) (fun _ _ _ h => h) (Or.inr ⟨by rfl, rfl⟩) hS1 ?_
              simp only [Act.put, List.setIfInBounds_toArray, List.set_cons_zero, List.set_cons_succ, List.getElem_toArray, List.getElem_cons_zero, List.getElem_cons_succ]
              refine wpAnyH_take (i := 15) (v := undef) rfl (by kernel_rfl) (by kernel_rfl) (by kernel_rfl) (fun _ _ _ h => h) (Or.inr ⟨by rfl, rfl⟩) hS1 ?_
              simp only [Act.put, List.setIfInBounds_toArray, List.set_cons_zero, List.set_cons_succ, List.getElem_toArray, List.getElem_cons_zero, List.getElem_cons_succ]
              refine wpAnyH_take (i := 16) (v := .bool false) rfl (by kernel_rfl) (by kernel_rfl) (by kernel_rfl) (fun _ _ _ h => h) (Or.inl ⟨by rfl, ?_⟩) hS1 ?_
              · rintro w6 ⟨b1, b2, b3⟩
                go_simp
              simp only [Act.put, List.setIfInBounds_toArray, List.set_cons_zero, List.set_cons_succ, List.getElem_toArray, List.getElem_cons_zero, List.getElem_cons_succ]
              refine wpAnyH_take (i := 17) (v := .bool false) rfl (by kernel_rfl) (by kernel_rfl) (by kernel_rfl) (fun _ _ _ h => h) (Or.inl ⟨by rfl, ?_⟩) hS1 ?_
              · rintro w6 ⟨b1, b2, b3⟩
                go_simp
              simp only [Act.put, List.setIfInBounds_toArray, List.set_cons_zero, List.set_cons_succ, List.getElem_toArray, List.getElem_cons_zero, List.getElem_cons_succ]
              exact wpAnyH_done (by kernel_rfl) ⟨_, _, _, _, _, _, _, _, _, _, _, _, _, _, _, _, _, rfl, B1.out⟩ _
            · obtain ⟨y, hy, HLy, hyc⟩ := HLs.out j rfl
              have HY := Lib.hid hyc
              obtain rfl : v = lessG y x := by rw [HOK.out, hf, hy]; simp
              have i2 : (0 : Int) ≤ (j : Int) := by omega
              have i3 : (j : Int) < (m : Int) := by omega
              have i4 : IntKind.i64.wrap (j : Int) = (j : Int) := by rw [IntKind.wrap_i64]; omega
              have i5 : IntKind.i64.wrap ((j : Int) + 1 - 1) = (j : Int) := by rw [Int.add_sub_cancel]; exact i4
              have i6 : decide (0 < (j : Int) + 1) = true := by simp
              have hS : (fun w' : World => (w'.cell? ⟨wr.heap.size, 0, none⟩ = some (.int .i64 x.a) ∧ w'.cell? ⟨wr.heap.size, 1, none⟩ = some (.int .i64 x.f) ∧ w'.cell? ⟨wr.heap.size, 2, none⟩ = some (.int .i64 x.t)) ∧ w'.cell? ⟨b, off + j * 3, none⟩ = some (.int .i64 y.a) ∧ w'.cell? ⟨b, off + j * 3 + 1, none⟩ = some (.int .i64 y.f) ∧ w'.cell? ⟨b, off + j * 3 + 2, none⟩ = some (.int .i64 y.t)) W.drew := ⟨HBo.out _ BD, HY.out _ BD⟩
              have Q2 := Lib.hid (fun w1 => HLy w1)
              clear HLy hyc
              generalize lessG y x = z at Q2 HOK HNo HYes HV ⊢
              refine wp_held (fun w' : World => (w'.cell? ⟨wr.heap.size, 0, none⟩ = some (.int .i64 x.a) ∧ w'.cell? ⟨wr.heap.size, 1, none⟩ = some (.int .i64 x.f) ∧ w'.cell? ⟨wr.heap.size, 2, none⟩ = some (.int .i64 x.t)) ∧ w'.cell? ⟨b, off + j * 3, none⟩ = some (.int .i64 y.a) ∧ w'.cell? ⟨b, off + j * 3 + 1, none⟩ = some (.int .i64 y.f) ∧ w'.cell? ⟨b, off + j * 3 + 2, none⟩ = some (.int .i64 y.t)) _ hmx ?_ (fun _ _ h => h)
              refine wpAnyH_take (i := 0) (v := .slice A n c) rfl (by kernel_rfl) (by kernel_rfl) (by kernel_rfl) (fun _ _ _ h => h) (Or.inl ⟨by rfl, ?_⟩) hS ?_
              · rintro w6 ⟨⟨b1, b2, b3⟩, q1, q2, q3⟩
                go_simp
              simp only [Act.put, List.setIfInBounds_toArray, List.set_cons_zero, List.set_cons_succ, List.getElem_toArray, List.getElem_cons_zero]
              refine wpAnyH_take (i := 1) (v := .agg #[.int .i64 x.a, .int .i64 x.f, .int .i64 x.t]) rfl (by kernel_rfl) (by kernel_rfl) (by kernel_rfl) (fun _ _ _ h => h) (Or.inl ⟨by rfl, ?_⟩) hS ?_
              · rintro w6 ⟨⟨b1, b2, b3⟩, q1, q2, q3⟩
                go_simp
              simp only [Act.put, List.setIfInBounds_toArray, List.set_cons_zero, List.set_cons_succ, List.getElem_toArray, List.getElem_cons_zero, List.getElem_cons_succ]
              refine wpAnyH_ready (rs := [2]) (by kernel_rfl) (by simp) ?_
              refine AllReadyH.cons rfl (fun K5 hK5 => ?_) AllReadyH.nil
              go_simp
              go_at_call 69
              refine (Q1.out _ (below_step BA.out BD)).mono ?_
              rintro e w1 ⟨rfl, h1⟩
              have B1 := Lib.hid (below_step BD h1)
              have hS1 : (fun w' : World => (w'.cell? ⟨wr.heap.size, 0, none⟩ = some (.int .i64 x.a) ∧ w'.cell? ⟨wr.heap.size, 1, none⟩ = some (.int .i64 x.f) ∧ w'.cell? ⟨wr.heap.size, 2, none⟩ = some (.int .i64 x.t)) ∧ w'.cell? ⟨b, off + j * 3, none⟩ = some (.int .i64 y.a) ∧ w'.cell? ⟨b, off + j * 3 + 1, none⟩ = some (.int .i64 y.f) ∧ w'.cell? ⟨b, off + j * 3 + 2, none⟩ = some (.int .i64 y.t)) w1 := ⟨HBo.out _ B1.out, HY.out _ B1.out⟩
              refine hK5.out _ _ hS1 (fun _ => ?_)
              clear hK5 K5
              refine wpAnyH_take (i := 3) (v := .bool false) rfl (by kernel_rfl) (by kernel_rfl) (by kernel_rfl) (fun _ _ _ h => h) (Or.inl ⟨by rfl, ?_⟩) hS1 ?_
              · rintro w6 ⟨⟨b1, b2, b3⟩, q1, q2, q3⟩
                go_simp
              simp only [Act.put, List.setIfInBounds_toArray, List.set_cons_zero, List.set_cons_succ, List.getElem_toArray, List.getElem_cons_zero, List.getElem_cons_succ]
              refine wpAnyH_take (i := 4) (v := .bool false) rfl (by kernel_rfl) (by kernel_rfl) (by kernel_rfl) (fun _ _ _ h => h) (Or.inl ⟨by rfl, ?_⟩) hS1 ?_
              · rintro w6 ⟨⟨b1, b2, b3⟩, q1, q2, q3⟩
                go_simp
              simp only [Act.put, List.setIfInBounds_toArray, List.set_cons_zero, List.set_cons_succ, List.getElem_toArray, List.getElem_cons_zero, List.getElem_cons_succ]
              refine wpAnyH_take (i := 5) (v := .int .i64 ((j + 1 : Nat) : Int)) rfl (by kernel_rfl) (by kernel_rfl) (by kernel_rfl) (fun _ _ _ h => h) (Or.inl ⟨by rfl, ?_⟩) hS1 ?_
              · rintro w6 ⟨⟨b1, b2, b3⟩, q1, q2, q3⟩
                go_simp
              simp only [Act.put, List.setIfInBounds_toArray, List.set_cons_zero, List.set_cons_succ, List.getElem_toArray, List.getElem_cons_zero, List.getElem_cons_succ]
              refine wpAnyH_take (i := 6) (v := .bool true) rfl (by kernel_rfl) (by kernel_rfl) (by kernel_rfl) (fun _ _ _ h => h) (Or.inl ⟨by rfl, ?_⟩) hS1 ?_
              · rintro w6 ⟨⟨b1, b2, b3⟩, q1, q2, q3⟩
                go_simp
              simp only [Act.put, List.setIfInBounds_toArray, List.set_cons_zero, List.set_cons_succ, List.getElem_toArray, List.getElem_cons_zero, List.getElem_cons_succ]
              refine wpAnyH_take (i := 7) (v := .bool true) rfl (by kernel_rfl) (by kernel_rfl) (by kernel_rfl) (fun _ _ _ h => h) (Or.inl ⟨by rfl, ?_⟩) hS1 ?_
              · rintro w6 ⟨⟨b1, b2, b3⟩, q1, q2, q3⟩
                go_simp
              simp only [Act.put, List.setIfInBounds_toArray, List.set_cons_zero, List.set_cons_succ, List.getElem_toArray, List.getElem_cons_zero, List.getElem_cons_succ]
              refine wpAnyH_take (i := 8) (v := .slice (some ⟨b, off, none⟩) m d) rfl (by kernel_rfl) (by kernel_rfl) (by kernel_rfl) (fun _ _ _ h => h) (Or.inl ⟨by rfl, ?_⟩) hS1 ?_
              · rintro w6 ⟨⟨b1, b2, b3⟩, q1, q2, q3⟩
                go_simp
              simp only [Act.put, List.setIfInBounds_toArray, List.set_cons_zero, List.set_cons_succ, List.getElem_toArray, List.getElem_cons_zero, List.getElem_cons_succ]
              refine wpAnyH_take (i := 9) (v := .int .i64 ((j + 1 : Nat) : Int)) rfl (by kernel_rfl) (by kernel_rfl) (by kernel_rfl) (fun _ _ _ h => h) (Or.inl ⟨by rfl, ?_⟩) hS1 ?_
              · rintro w6 ⟨⟨b1, b2, b3⟩, q1, q2, q3⟩
                go_simp
              simp only [Act.put, List.setIfInBounds_toArray, List.set_cons_zero, List.set_cons_succ, List.getElem_toArray, List.getElem_cons_zero, List.getElem_cons_succ]
              refine wpAnyH_take (i := 10) (v := .int .i64 (j : Int)) rfl (by kernel_rfl) (by kernel_rfl) (by kernel_rfl) (fun _ _ _ h => h) (Or.inl ⟨by rfl, ?_⟩) hS1 ?_
              · rintro w6 ⟨⟨b1, b2, b3⟩, q1, q2, q3⟩
                go_simp
              simp only [Act.put, List.setIfInBounds_toArray, List.set_cons_zero, List.set_cons_succ, List.getElem_toArray, List.getElem_cons_zero, List.getElem_cons_succ]
              refine wpAnyH_take (i := 11) (v := .pointer (some ⟨b, off + j * 3, none⟩)) rfl (by kernel_rfl) (by kernel_rfl) (by kernel_rfl) (fun _ _ _ h => h) (Or.inl ⟨by rfl, ?_⟩) hS1 ?_
              · rintro w6 ⟨⟨b1, b2, b3⟩, q1, q2, q3⟩
                go_simp
              simp only [Act.put, List.setIfInBounds_toArray, List.set_cons_zero, List.set_cons_succ, List.getElem_toArray, List.getElem_cons_zero, List.getElem_cons_succ]
              refine wpAnyH_take (i := 12) (v := .agg #[.int .i64 y.a, .int .i64 y.f, .int .i64 y.t]) rfl (by kernel_rfl) (by kernel_rfl) (by kernel_rfl) (fun _ _ _ h => h) (Or.inl ⟨by rfl, ?_⟩) hS1 ?_
              · rintro w6 ⟨⟨b1, b2, b3⟩, q1, q2, q3⟩
                go_simp
              simp only [Act.put, List.setIfInBounds_toArray, List.set_cons_zero, List.set_cons_succ, List.getElem_toArray, List.getElem_cons_zero, List.getElem_cons_succ]
              refine wpAnyH_take (i := 13) (v := .agg #[.int .i64 x.a, .int .i64 x.f, .int .i64 x.t]) rfl (by kernel_rfl) (by kernel_rfl) (by kernel_rfl) (fun _ _ _ h => h) (Or.inl ⟨by rfl, ?_⟩) hS1 ?_
              · rintro w6 ⟨⟨b1, b2, b3⟩, q1, q2, q3⟩
                go_simp
              simp only [Act.put, List.setIfInBounds_toArray, List.set_cons_zero, List.set_cons_succ, List.getElem_toArray, List.getElem_cons_zero, List.getElem_cons_succ]
              refine wpAnyH_ready (rs := [14]) (by kernel_rfl) (by simp) ?_
              refine AllReadyH.cons rfl (fun K5 hK5 => ?_) AllReadyH.nil
              go_simp
              go_at_call 21
              refine (Q2.out _).mono ?_
              rintro e w2 ⟨rfl, h2⟩
              have B2 := Lib.hid (below_step B1.out h2)
              have hS2 : (fun w' : World => (w'.cell? ⟨wr.heap.size, 0, none⟩ = some (.int .i64 x.a) ∧ w'.cell? ⟨wr.heap.size, 1, none⟩ = some (.int .i64 x.f) ∧ w'.cell? ⟨wr.heap.size, 2, none⟩ = some (.int .i64 x.t)) ∧ w'.cell? ⟨b, off + j * 3, none⟩ = some (.int .i64 y.a) ∧ w'.cell? ⟨b, off + j * 3 + 1, none⟩ = some (.int .i64 y.f) ∧ w'.cell? ⟨b, off + j * 3 + 2, none⟩ = some (.int .i64 y.t)) w2 := ⟨HBo.out _ B2.out, HY.out _ B2.out⟩
              refine hK5.out _ _ hS2 (fun _ => ?_)
              clear hK5 K5
              refine wpAnyH_take (i := 15) (v := .bool (!z)) rfl (by kernel_rfl) (by kernel_rfl) (by kernel_rfl) (fun _ _ _ h => h) (Or.inl ⟨by rfl, ?_⟩) hS2 ?_
              · rintro w6 ⟨⟨b1, b2, b3⟩, q1, q2, q3⟩
                go_simp
              simp only [Act.put, List.setIfInBounds_toArray, List.set_cons_zero, List.set_cons_succ, List.getElem_toArray, List.getElem_cons_zero, List.getElem_cons_succ]
              refine wpAnyH_take (i := 16) (v := .bool (!z)) rfl (by kernel_rfl) (by kernel_rfl) (by kernel_rfl) (fun _ _ _ h => h) (Or.inl ⟨by rfl, ?_⟩) hS2 ?_
              · rintro w6 ⟨⟨b1, b2, b3⟩, q1, q2, q3⟩
                go_simp
              simp only [Act.put, List.setIfInBounds_toArray, List.set_cons_zero, List.set_cons_succ, List.getElem_toArray, List.getElem_cons_zero, List.getElem_cons_succ]
              refine wpAnyH_take (i := 17) (v := .bool (!z)) rfl (by kernel_rfl) (by kernel_rfl) (by kernel_rfl) (fun _ _ _ h => h) (Or.inl ⟨by rfl, ?_⟩) hS2 ?_
              · rintro w6 ⟨⟨b1, b2, b3⟩, q1, q2, q3⟩
                go_simp
              simp only [Act.put, List.setIfInBounds_toArray, List.set_cons_zero, List.set_cons_succ, List.getElem_toArray, List.getElem_cons_zero, List.getElem_cons_succ]
              exact wpAnyH_done (by kernel_rfl) ⟨_, _, _, _, _, _, _, _, _, _, _, _, _, _, _, _, _, rfl, B2.out⟩ _
        · rintro act W2 ⟨y17, y18, y19, y20, y21, y22, y23, y24, y25, y26, y27, y28, y29, y30, y31, y32, y33, rfl, hBW⟩
          have B2 := Lib.hid (below_step BA.out hBW)
          clear HFit HBo HLs hBW
          cases v
          · have HE := Lib.hid (HNo.out rfl)
            go_wp2
            go_ret
            exact ⟨ret_bool HE.out.symm, B2.out⟩
          · have HE := Lib.hid (HYes.out rfl)
            go_wp2
            go_roundw
            case rel => exact ⟨k + 1, by omega, by go_num, HE.out, B2.out⟩
            case measure => simp [intOf]; omega
      · obtain rfl : k = m := by omega
        have HE : Hid (checkG up l = true) := Lib.hid (by
          unfold checkG
          rw [Bool.and_eq_true, List.all_eq_true]
          have := HN.out
          refine ⟨by simp; omega, fun j hj => HJ.out j (by simp at hj; omega)⟩)
        obtain ⟨w3, hw3⟩ : ∃ w3 : World, w3 = wr := ⟨_, rfl⟩
        subst hw3
        go_wp2
        go_ret
        exact ⟨ret_bool HE.out.symm, BW.out⟩

end Go.Proofs.YtglkmpglpddfdaaGreatDoor
