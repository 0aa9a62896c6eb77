import Derived.Test.YtlfmmmgdilencaaJ16
/- Of a claim's texts, joined: PiRun. No statement but in the last. -/
namespace Go.Proofs.Ytlfmmmgdilencaa
open Go.RowKit
set_option linter.unusedVariables false

structure RnS (W w : World) (P mb : Nat) (L M : List Nat) (A : Option Addr) (n c : Nat) (s : Nat) (kd : Int) (v : Nat) : Prop where
  pb : PB W w P mb L
  row : RowU w A n c M
  box : Has w s 29 #[.int .i64 kd, .int .u64 (v : Int)]
section
variable {W w w' : World} {P mb : Nat} {L M : List Nat} {A : Option Addr} {n c s : Nat} {kd : Int} {v : Nat}
theorem RnS.below (h : RnS W w P mb L M A n c s kd v) (hb : Below w.heap.size w w') : RnS W w' P mb L M A n c s kd v := ⟨h.pb.below hb, h.row.below hb, h.box.below hb h.box.lt⟩
theorem RnS.c0 (h : RnS W w P mb L M A n c s kd v) : w.cell? ⟨s, 0, none⟩ = some (.int .i64 kd) := h.box.cell 0
theorem RnS.c1 (h : RnS W w P mb L M A n c s kd v) : w.cell? ⟨s, 1, none⟩ = some (.int .u64 (v : Int)) := h.box.cell 1
theorem RnS.turn {L' : List Nat} (h : RnS W w P mb L M A n c s kd v) (hp : PB W w' P mb L') (hg : Turn2 w w' P mb) : RnS W w' P mb L' M A n c s kd v :=
  ⟨hp, hg.1.row h.row, hg.1.has h.box (by decide)⟩
theorem RnS.pin (h : RnS W w P mb L M A n c s kd v) (hv : v < 2 ^ 64) (hl : L.length ≤ 1000) : Calls Try.prog 8 #[.pointer (some ⟨P, 0, none⟩), .int .u64 (v : Int)] w fun e w' => e = .returned (.tuple #[]) ∧ RnS W w' P mb (pinN L v) M A n c s kd v := by
  refine (pinS v h.pb hv hl).mono ?_
  rintro e w' ⟨rfl, h1, h2⟩
  exact ⟨rfl, h.turn h1 h2⟩
theorem RnS.unpin (h : RnS W w P mb L M A n c s kd v) (hv : v < 2 ^ 64) (hl : L.length ≤ 1000) : Calls Try.prog 11 #[.pointer (some ⟨P, 0, none⟩), .int .u64 (v : Int)] w fun e w' => e = .returned (.bool (decide (v ∈ L))) ∧ RnS W w' P mb (L.erase v) M A n c s kd v := by
  refine (unpinS v h.pb hv hl).mono ?_
  rintro e w' ⟨rfl, h1, h2⟩
  exact ⟨rfl, h.turn h1 h2⟩
theorem RnS.few (h : RnS W w P mb L M A n c s kd v) (hl : M.length ≤ 1000) : n ≤ 100000 := by
  have := h.row.arg.len
  omega
theorem RnS.rpin (h : RnS W w P mb L M A n c s kd v) (hv : v < 2 ^ 64) (hl : M.length ≤ 1000) : Calls Try.prog 9 #[.slice A n c, .int .u64 (v : Int)] w fun e w' => ∃ A' n' c', e = .returned (.slice A' n' c') ∧ RnS W w' P mb L (pinN M v) A' n' c' s kd v := by
  refine (r12Pin_any A n c M v w h.row (h.few hl) hv).mono ?_
  rintro e w' ⟨A', n', c', rfl, h1, h2⟩
  have := h.below h2
  exact ⟨A', n', c', rfl, this.pb, h1, this.box⟩
theorem RnS.runpin (h : RnS W w P mb L M A n c s kd v) (hl : M.length ≤ 1000) : Calls Try.prog 10 #[.slice A n c, .int .u64 (v : Int)] w fun e w' => ∃ A' n' c', e = .returned (.tuple #[.slice A' n' c', .bool (decide (v ∈ M))]) ∧ RnS W w' P mb L (M.erase v) A' n' c' s kd v := by
  refine (r12Unpin_any A n c M v w h.row (h.few hl)).mono ?_
  rintro e w' ⟨A', n', c', rfl, h1, h2⟩
  have := h.below h2
  exact ⟨A', n', c', rfl, this.pb, h1, this.box⟩
end
theorem erase_len (L : List Nat) (v : Nat) : (L.erase v).length ≤ L.length := List.length_erase_le
set_option maxRecDepth 100000 in
set_option maxHeartbeats 8000000 in
theorem walkPinsRun (A : Option Addr) (n c : Nat) (l : List (Int × Nat)) (W : World) (h : StA12 W A n l) (hnI : n ≤ 9223372036854775807) :
    Calls Try.prog 3 #[.slice A n c] W fun e W' => e = .returned (.bool true) ∧ Below W.heap.size W W' := by
  have hmx : Try.prog.follows .mixedOrders = true := by kernel_rfl
  have HAW := Lib.hid (awake12_any W)
  by_cases hn : 80 < n
  · have hnI' : (80 : Int) < (n : Int) := by omega
    clear h
    go_enter Try.func3, Try.ntmps3
    go_wp2_with (go_at_call 6; (with_reducible refine HAW.out.mono ?_); rintro e w1 ⟨rfl, b1⟩; have B1 := Lib.hid b1; clear b1)
    go_ret
    exact ⟨rfl, B1.out⟩
  · have hn20 : ¬ (80 : Int) < (n : Int) := by omega
    have HNW := Lib.hid (fun w1 (b : Below W.heap.size W w1) => newS b)
    have HE0 : Hid (0 < n → ∃ b off, A = some ⟨b, off, none⟩ ∧ ∀ k x, l[k]? = some x → ∀ w5, Below W.heap.size W w5 → w5.cell? ⟨b, off + k * 2, none⟩ = some (.int .i64 x.1) ∧ w5.cell? ⟨b, off + k * 2 + 1, none⟩ = some (.int .u64 (x.2 : Int))) := Lib.hid (fun h0 => by
      obtain ⟨b, off, e, hlt, hc⟩ := h.reads h0
      exact ⟨b, off, e, fun k x hx w5 b5 => ⟨(b5.cell (p := ⟨b, off + k * 2, none⟩) hlt).trans (hc k x hx).1, (b5.cell (p := ⟨b, off + k * 2 + 1, none⟩) hlt).trans (hc k x hx).2⟩⟩)
    have HLN := Lib.hid h.len
    have HBG := Lib.hid h.big
    clear h
    go_enter Try.func3, Try.ntmps3
    go_wp2_with (first
      | (go_at_call 6; (with_reducible refine HAW.out.mono ?_); rintro e w1 ⟨rfl, b1⟩; have B1 := Lib.hid b1; clear b1)
      | (go_at_call 7; (with_reducible refine (HNW.out _ B1.out).mono ?_); rintro e w2 ⟨P, mb, rfl, h2, _, _, _⟩; have X2 := Lib.hid h2; clear h2))
    go_loopw [5, 6] (fun v i wr => ∃ (k : Nat) (L : List Nat) (A1 : Option Addr) (n1 c1 : Nat), k ≤ n ∧ i = .int .i64 (k : Int) ∧ v = .slice A1 n1 c1 ∧ PB W wr P mb L ∧ RowU wr A1 n1 c1 L ∧ L.length ≤ k) (fun _ i _ => n - (intOf i).toNat)
    case atStart => exact ⟨0, [], none, 0, 0, Nat.zero_le _, rfl, rfl, X2.out, RowU.none_ _, Nat.le_refl _⟩
    case round =>
      obtain ⟨k, L, A1, n1, c1, hk, rfl, rfl, hp, hr, hL⟩ := hrel
      have HP := Lib.hid hp
      have HR := Lib.hid hr
      clear hp hr
      by_cases hlt : k < n
      · obtain ⟨b, off, rfl, hel⟩ := HE0.out (by omega)
        have hkl : k < l.length := by rw [← HLN.out]; exact hlt
        have hel := hel k l[k] (List.getElem?_eq_getElem hkl) wr HP.out.bel
        have hv := HBG.out _ (List.getElem_mem hkl)
        obtain ⟨kd, v, hyx⟩ : ∃ kd v, l[k] = (kd, v) := ⟨_, _, rfl⟩
        rw [hyx] at hel hv
        simp only at hel hv
        obtain ⟨hc0, hc1⟩ := hel
        have hkI : (k : Int) < (n : Int) := by omega
        have hk0 : (0 : Int) ≤ (k : Int) := by omega
        obtain ⟨X, hX⟩ : ∃ X, wr.alloc (.cells #[.int .i64 kd, .int .u64 (v : Int)] 29) = X := ⟨_, rfl⟩
        have hbX : Below wr.heap.size wr X := hX ▸ (Below.refl _ wr).alloc (Nat.le_refl _) _
        have S0 : Hid (RnS W X P mb L L A1 n1 c1 wr.heap.size kd v) := Lib.hid ⟨HP.out.below hbX, HR.out.below hbX, hX ▸ Has.made wr 29 #[.int .i64 kd, .int .u64 (v : Int)]⟩
        have HX := Lib.hid hX
        have HSM : Hid (∀ (w1 : World) K B B' (m m' d d' : Nat), RowU w1 B m d (allN K) → RowU w1 B' m' d' (allN K) → K.length ≤ 1000 → Calls Try.prog 16 #[.slice B m d, .slice B' m' d'] w1 fun e w' => e = .returned (.bool true) ∧ Below w1.heap.size w1 w') := Lib.hid (fun w1 K B B' m m' d d' h1 h2 hl => by
          have := r3Same_any (allN K) (allN K) B B' m d m' d' w1 h1.arg.len h2.arg.len h1.arg.reads h2.arg.reads (by have := h1.arg.len; have := allTo_len K K.length; unfold allN at *; omega)
          simpa using this)
        clear hyx hkl hX hbX
        by_cases h0 : kd = 0
        · subst h0
          obtain ⟨L2, hL2⟩ : ∃ L2, pinN L v = L2 := ⟨_, rfl⟩
          have hlen : L2.length ≤ k + 1 := by rw [← hL2]; rw [pinN_len]; omega
          obtain ⟨⟨ox, ob⟩, hox⟩ : ∃ o, oldN L2 = o := ⟨_, rfl⟩
          have HOL : Hid (∀ w1 M B m d s kd, RnS W w1 P mb L2 M B m d s kd v → Calls Try.prog 12 #[.pointer (some ⟨P, 0, none⟩)] w1 fun e w' => e = .returned (.tuple #[.int .u64 (ox : Int), .bool ob]) ∧ Below w1.heap.size w1 w') := Lib.hid (fun w1 M B m d s kd h => by have := piOldest_any h.pb.pn (by omega); rw [hox] at this; exact this)
          have HRO : Hid (∀ w1 L B m d s kd, RnS W w1 P mb L L2 B m d s kd v → Calls Try.prog 13 #[.slice B m d] w1 fun e w' => e = .returned (.tuple #[.int .u64 (ox : Int), .bool ob]) ∧ w1 = w') := Lib.hid (fun w1 L B m d s kd h => by have := r12Oldest_any B m d L2 w1 h.row.arg (by have := h.few (by omega); omega); rw [hox] at this; exact this)
          have HHE : Hid (∀ w1 M B m d s kd, RnS W w1 P mb L2 M B m d s kd v → Calls Try.prog 14 #[.pointer (some ⟨P, 0, none⟩), .int .u64 (v : Int)] w1 fun e w' => e = .returned (.int .i64 (L2.count v : Int)) ∧ Below w1.heap.size w1 w') := Lib.hid (fun w1 M B m d s kd h => piHeld_any v h.pb.pn hv (by omega))
          have HRH : Hid (∀ w1 L B m d s kd, RnS W w1 P mb L L2 B m d s kd v → Calls Try.prog 15 #[.slice B m d, .int .u64 (v : Int)] w1 fun e w' => e = .returned (.int .i64 (L2.count v : Int)) ∧ w1 = w') := Lib.hid (fun w1 L B m d s kd h => r12Held_any B m d L2 v w1 h.row.arg (by have := h.few (by omega); omega))
          have HAL : Hid (∀ w1 M B m d s kd, RnS W w1 P mb L2 M B m d s kd v → Calls Try.prog 17 #[.pointer (some ⟨P, 0, none⟩)] w1 (RowEnd (allN L2) w1)) := Lib.hid (fun w1 M B m d s kd h => piAll_any h.pb.pn (by omega))
          have HRA : Hid (∀ w1 L B m d s kd, RnS W w1 P mb L L2 B m d s kd v → Calls Try.prog 18 #[.slice B m d] w1 (RowEnd (allN L2) w1)) := Lib.hid (fun w1 L B m d s kd h => r12All_any B m d L2 w1 h.row.arg (h.few (by omega)))
          unfold RowEnd at HAL HRA
          have HPI := Lib.hid (S0.out.pin hv (by omega))
          have HRP : Hid (∀ w1, RnS W w1 P mb (pinN L v) L A1 n1 c1 wr.heap.size 0 v → _) := Lib.hid (fun w1 h => RnS.rpin h hv (by omega))
          rw [hL2] at HPI HRP
          clear hv
          go_wp2_with (first
            | (go_at_call 8; (try rw [HX.out]); (with_reducible refine HPI.out.mono ?_); rintro e w3 ⟨rfl, h3⟩; have d30 := h3.c0; have d31 := h3.c1; have S3 := Lib.hid h3; clear h3)
            | (go_at_call 9; (with_reducible refine (HRP.out _ S3.out).mono ?_); rintro e w4 ⟨A4, n4, c4, rfl, h4⟩; have d40 := h4.c0; have d41 := h4.c1; have S4 := Lib.hid h4; clear h4)
            | (go_at_call 12; (try rw [HX.out]); (with_reducible refine (HOL.out _ _ _ _ _ _ _ S4.out).mono ?_); rintro e w5 ⟨rfl, b5⟩; have S5 := Lib.hid (S4.out.below b5); clear b5)
            | (go_at_call 13; (with_reducible refine (HRO.out _ _ _ _ _ _ _ S5.out).mono ?_); rintro e w6 ⟨rfl, rfl⟩))
          have S6 := S5.out.below (Below.refl _ _).drew
          have hS6 : (fun w' : World => w'.cell? ⟨wr.heap.size, 1, none⟩ = some (.int .u64 (v : Int))) w5.drew := S6.c1
          rename_i K hK
          refine wp_held (fun w' : World => w'.cell? ⟨wr.heap.size, 1, none⟩ = some (.int .u64 (v : Int))) K hmx ?_ (fun _ _ h => h)
          refine wpAnyH_take (i := 0) (v := .int .u64 (ox : Int)) (lit rfl) (by kernel_rfl) (by kernel_rfl) (by kernel_rfl) (fun _ _ _ h => h) (Or.inl ⟨by rfl, ?_⟩) hS6 ?_
          · rintro w6 k1
            go_simp
          simp only [Act.put, List.setIfInBounds_toArray, List.set_cons_zero, List.set_cons_succ]
          refine wpAnyH_take (i := 1) (v := .int .u64 (ox : Int)) (lit rfl) (by kernel_rfl) (by kernel_rfl) (by kernel_rfl) (fun _ _ _ h => h) (Or.inl ⟨by rfl, ?_⟩) hS6 ?_
          · rintro w6 k1
            go_simp
          simp only [Act.put, List.setIfInBounds_toArray, List.set_cons_zero, List.set_cons_succ]
          refine wpAnyH_take (i := 2) (v := .bool false) (lit rfl) (by kernel_rfl) (by kernel_rfl) (by kernel_rfl) (fun _ _ _ h => h) (Or.inl ⟨by rfl, ?_⟩) hS6 ?_
          · rintro w6 k1
            go_simp
          simp only [Act.put, List.setIfInBounds_toArray, List.set_cons_zero, List.set_cons_succ]
          refine wpAnyH_take (i := 3) (v := .bool false) (lit rfl) (by kernel_rfl) (by kernel_rfl) (by kernel_rfl) (fun _ _ _ h => h) (Or.inl ⟨by rfl, ?_⟩) hS6 ?_
          · rintro w6 k1
            go_simp
          simp only [Act.put, List.setIfInBounds_toArray, List.set_cons_zero, List.set_cons_succ]
          refine wpAnyH_take (i := 4) (v := .bool ob) (lit rfl) (by kernel_rfl) (by kernel_rfl) (by kernel_rfl) (fun _ _ _ h => h) (Or.inl ⟨by rfl, ?_⟩) hS6 ?_
          · rintro w6 k1
            go_simp
          simp only [Act.put, List.setIfInBounds_toArray, List.set_cons_zero, List.set_cons_succ]
          refine wpAnyH_take (i := 5) (v := .bool ob) (lit rfl) (by kernel_rfl) (by kernel_rfl) (by kernel_rfl) (fun _ _ _ h => h) (Or.inl ⟨by rfl, ?_⟩) hS6 ?_
          · rintro w6 k1
            go_simp
          simp only [Act.put, List.setIfInBounds_toArray, List.set_cons_zero, List.set_cons_succ]
          refine wpAnyH_take (i := 6) (v := .bool false) (lit rfl) (by kernel_rfl) (by kernel_rfl) (by kernel_rfl) (fun _ _ _ h => h) (Or.inl ⟨by rfl, ?_⟩) hS6 ?_
          · rintro w6 k1
            go_simp
          simp only [Act.put, List.setIfInBounds_toArray, List.set_cons_zero, List.set_cons_succ]
          refine wpAnyH_take (i := 7) (v := .bool false) (lit rfl) (by kernel_rfl) (by kernel_rfl) (by kernel_rfl) (fun _ _ _ h => h) (Or.inl ⟨by rfl, ?_⟩) hS6 ?_
          · rintro w6 k1
            go_simp
          simp only [Act.put, List.setIfInBounds_toArray, List.set_cons_zero, List.set_cons_succ]
          refine wpAnyH_take (i := 8) (v := .bool false) (lit rfl) (by kernel_rfl) (by kernel_rfl) (by kernel_rfl) (fun _ _ _ h => h) (Or.inl ⟨by rfl, ?_⟩) hS6 ?_
          · rintro w6 k1
            go_simp
          simp only [Act.put, List.setIfInBounds_toArray, List.set_cons_zero, List.set_cons_succ]
          refine wpAnyH_take (i := 9) (v := .pointer (some ⟨P, 0, none⟩)) (lit rfl) (by kernel_rfl) (by kernel_rfl) (by kernel_rfl) (fun _ _ _ h => h) (Or.inl ⟨by rfl, ?_⟩) hS6 ?_
          · rintro w6 k1
            go_simp
          simp only [Act.put, List.setIfInBounds_toArray, List.set_cons_zero, List.set_cons_succ]
          refine wpAnyH_take (i := 10) (v := .pointer (some ⟨wr.heap.size, 1, none⟩)) (lit rfl) (by kernel_rfl) (by kernel_rfl) (by kernel_rfl) (fun _ _ _ h => h) (Or.inl ⟨by rfl, ?_⟩) hS6 ?_
          · rintro w6 k1
            go_simp
          simp only [Act.put, List.setIfInBounds_toArray, List.set_cons_zero, List.set_cons_succ]
          refine wpAnyH_take (i := 11) (v := .int .u64 (v : Int)) (lit rfl) (by kernel_rfl) (by kernel_rfl) (by kernel_rfl) (fun _ _ _ h => h) (Or.inl ⟨by rfl, ?_⟩) hS6 ?_
          · rintro w6 k1
            go_simp
          simp only [Act.put, List.setIfInBounds_toArray, List.set_cons_zero, List.set_cons_succ]
          refine wpAnyH_take (i := 13) (v := .slice A4 n4 c4) (lit rfl) (by kernel_rfl) (by kernel_rfl) (by kernel_rfl) (fun _ _ _ h => h) (Or.inl ⟨by rfl, ?_⟩) hS6 ?_
          · rintro w6 k1
            go_simp
          simp only [Act.put, List.setIfInBounds_toArray, List.set_cons_zero, List.set_cons_succ]
          refine wpAnyH_take (i := 14) (v := .pointer (some ⟨wr.heap.size, 1, none⟩)) (lit rfl) (by kernel_rfl) (by kernel_rfl) (by kernel_rfl) (fun _ _ _ h => h) (Or.inl ⟨by rfl, ?_⟩) hS6 ?_
          · rintro w6 k1
            go_simp
          simp only [Act.put, List.setIfInBounds_toArray, List.set_cons_zero, List.set_cons_succ]
          refine wpAnyH_take (i := 15) (v := .int .u64 (v : Int)) (lit rfl) (by kernel_rfl) (by kernel_rfl) (by kernel_rfl) (fun _ _ _ h => h) (Or.inl ⟨by rfl, ?_⟩) hS6 ?_
          · rintro w6 k1
            go_simp
          simp only [Act.put, List.setIfInBounds_toArray, List.set_cons_zero, List.set_cons_succ]
          refine wpAnyH_ready (rs := [12]) (by kernel_rfl) (by simp) ?_
          refine AllReadyH.cons (lit rfl) (fun K5 hK5 => ?_) AllReadyH.nil
          go_simp
          go_at_call 14
          (with_reducible refine (HHE.out _ _ _ _ _ _ _ S6).mono ?_)
          rintro e7 w7 ⟨rfl, b7⟩
          have S7 := S6.below b7
          have hS7 : (fun w' : World => w'.cell? ⟨wr.heap.size, 1, none⟩ = some (.int .u64 (v : Int))) w7 := S7.c1
          clear b7
          refine hK5.out _ _ hS7 (fun _ => ?_)
          clear hK5 K5
          refine wpAnyH_ready (rs := [16]) (by kernel_rfl) (by simp) ?_
          refine AllReadyH.cons (lit rfl) (fun K5 hK5 => ?_) AllReadyH.nil
          go_simp
          go_at_call 15
          (with_reducible refine (HRH.out _ _ _ _ _ _ _ S7).mono ?_)
          rintro e8 w8 ⟨rfl, rfl⟩
          refine hK5.out _ _ hS7 (fun _ => ?_)
          clear hK5 K5
          refine wpAnyH_take (i := 17) (v := .bool false) (lit rfl) (by kernel_rfl) (by kernel_rfl) (by kernel_rfl) (fun _ _ _ h => h) (Or.inl ⟨by rfl, ?_⟩) hS7 ?_
          · rintro w6 k1
            go_simp
          simp only [Act.put, List.setIfInBounds_toArray, List.set_cons_zero, List.set_cons_succ]
          refine wpAnyH_take (i := 18) (v := .bool false) (lit rfl) (by kernel_rfl) (by kernel_rfl) (by kernel_rfl) (fun _ _ _ h => h) (Or.inl ⟨by rfl, ?_⟩) hS7 ?_
          · rintro w6 k1
            go_simp
          simp only [Act.put, List.setIfInBounds_toArray, List.set_cons_zero, List.set_cons_succ]
          refine wpAnyH_take (i := 19) (v := .bool false) (lit rfl) (by kernel_rfl) (by kernel_rfl) (by kernel_rfl) (fun _ _ _ h => h) (Or.inl ⟨by rfl, ?_⟩) hS7 ?_
          · rintro w6 k1
            go_simp
          simp only [Act.put, List.setIfInBounds_toArray, List.set_cons_zero, List.set_cons_succ]
          refine wpAnyH_take (i := 20) (v := .pointer (some ⟨P, 0, none⟩)) (lit rfl) (by kernel_rfl) (by kernel_rfl) (by kernel_rfl) (fun _ _ _ h => h) (Or.inl ⟨by rfl, ?_⟩) hS7 ?_
          · rintro w6 k1
            go_simp
          simp only [Act.put, List.setIfInBounds_toArray, List.set_cons_zero, List.set_cons_succ]
          refine wpAnyH_take (i := 22) (v := .slice A4 n4 c4) (lit rfl) (by kernel_rfl) (by kernel_rfl) (by kernel_rfl) (fun _ _ _ h => h) (Or.inl ⟨by rfl, ?_⟩) hS7 ?_
          · rintro w6 k1
            go_simp
          simp only [Act.put, List.setIfInBounds_toArray, List.set_cons_zero, List.set_cons_succ]
          refine wpAnyH_ready (rs := [21]) (by kernel_rfl) (by simp) ?_
          refine AllReadyH.cons (lit rfl) (fun K5 hK5 => ?_) AllReadyH.nil
          go_simp
          go_at_call 17
          (with_reducible refine (HAL.out _ _ _ _ _ _ _ S7).mono ?_)
          rintro e9 w9 ⟨A9, n9, c9, rfl, r9, b9⟩
          have S9 := S7.below b9
          have hS9 : (fun w' : World => w'.cell? ⟨wr.heap.size, 1, none⟩ = some (.int .u64 (v : Int))) w9 := S9.c1
          clear b9
          refine hK5.out _ _ hS9 (fun _ => ?_)
          clear hK5 K5
          refine wpAnyH_ready (rs := [23]) (by kernel_rfl) (by simp) ?_
          refine AllReadyH.cons (lit rfl) (fun K5 hK5 => ?_) AllReadyH.nil
          go_simp
          go_at_call 18
          (with_reducible refine (HRA.out _ _ _ _ _ _ _ S9).mono ?_)
          rintro e10 w10 ⟨A10, n10, c10, rfl, r10, b10⟩
          have S10 := S9.below b10
          have hS10 : (fun w' : World => w'.cell? ⟨wr.heap.size, 1, none⟩ = some (.int .u64 (v : Int))) w10 := S10.c1
          have r9b := r9.below b10
          clear b10 r9
          refine hK5.out _ _ hS10 (fun _ => ?_)
          clear hK5 K5
          refine wpAnyH_ready (rs := [24]) (by kernel_rfl) (by simp) ?_
          refine AllReadyH.cons (lit rfl) (fun K5 hK5 => ?_) AllReadyH.nil
          go_simp
          go_at_call 16
          (with_reducible refine (HSM.out _ _ _ _ _ _ _ _ r9b r10 (by omega)).mono ?_)
          rintro e11 w11 ⟨rfl, b11⟩
          have S11 := S10.below b11
          have hS11 : (fun w' : World => w'.cell? ⟨wr.heap.size, 1, none⟩ = some (.int .u64 (v : Int))) w11 := S11.c1
          clear b11 r9b r10
          refine hK5.out _ _ hS11 (fun _ => ?_)
          clear hK5 K5
          refine wpAnyH_take (i := 25) (v := .bool false) (lit rfl) (by kernel_rfl) (by kernel_rfl) (by kernel_rfl) (fun _ _ _ h => h) (Or.inl ⟨by rfl, ?_⟩) hS11 ?_
          · rintro w6 k1
            go_simp
          simp only [Act.put, List.setIfInBounds_toArray, List.set_cons_zero, List.set_cons_succ]
          refine wpAnyH_take (i := 26) (v := .bool false) (lit rfl) (by kernel_rfl) (by kernel_rfl) (by kernel_rfl) (fun _ _ _ h => h) (Or.inl ⟨by rfl, ?_⟩) hS11 ?_
          · rintro w6 k1
            go_simp
          simp only [Act.put, List.setIfInBounds_toArray, List.set_cons_zero, List.set_cons_succ]
          refine wpAnyH_done (by kernel_rfl) ?_ _
          refine hK _ _ ?_
          go_wp2
          go_roundw
          case rel => exact ⟨k + 1, _, _, _, _, by omega, by go_num, rfl, S11.pb, S11.row, hlen⟩
          case measure => simp [intOf]; omega
        · by_cases h1 : kd = 1
          · subst h1
            obtain ⟨L2, hL2⟩ : ∃ L2, L.erase v = L2 := ⟨_, rfl⟩
            have hlen : L2.length ≤ k + 1 := by rw [← hL2]; have := erase_len L v; omega
            obtain ⟨⟨ox, ob⟩, hox⟩ : ∃ o, oldN L2 = o := ⟨_, rfl⟩
            have HOL : Hid (∀ w1 M B m d s kd, RnS W w1 P mb L2 M B m d s kd v → Calls Try.prog 12 #[.pointer (some ⟨P, 0, none⟩)] w1 fun e w' => e = .returned (.tuple #[.int .u64 (ox : Int), .bool ob]) ∧ Below w1.heap.size w1 w') := Lib.hid (fun w1 M B m d s kd h => by have := piOldest_any h.pb.pn (by omega); rw [hox] at this; exact this)
            have HRO : Hid (∀ w1 L B m d s kd, RnS W w1 P mb L L2 B m d s kd v → Calls Try.prog 13 #[.slice B m d] w1 fun e w' => e = .returned (.tuple #[.int .u64 (ox : Int), .bool ob]) ∧ w1 = w') := Lib.hid (fun w1 L B m d s kd h => by have := r12Oldest_any B m d L2 w1 h.row.arg (by have := h.few (by omega); omega); rw [hox] at this; exact this)
            have HHE : Hid (∀ w1 M B m d s kd, RnS W w1 P mb L2 M B m d s kd v → Calls Try.prog 14 #[.pointer (some ⟨P, 0, none⟩), .int .u64 (v : Int)] w1 fun e w' => e = .returned (.int .i64 (L2.count v : Int)) ∧ Below w1.heap.size w1 w') := Lib.hid (fun w1 M B m d s kd h => piHeld_any v h.pb.pn hv (by omega))
            have HRH : Hid (∀ w1 L B m d s kd, RnS W w1 P mb L L2 B m d s kd v → Calls Try.prog 15 #[.slice B m d, .int .u64 (v : Int)] w1 fun e w' => e = .returned (.int .i64 (L2.count v : Int)) ∧ w1 = w') := Lib.hid (fun w1 L B m d s kd h => r12Held_any B m d L2 v w1 h.row.arg (by have := h.few (by omega); omega))
            have HAL : Hid (∀ w1 M B m d s kd, RnS W w1 P mb L2 M B m d s kd v → Calls Try.prog 17 #[.pointer (some ⟨P, 0, none⟩)] w1 (RowEnd (allN L2) w1)) := Lib.hid (fun w1 M B m d s kd h => piAll_any h.pb.pn (by omega))
            have HRA : Hid (∀ w1 L B m d s kd, RnS W w1 P mb L L2 B m d s kd v → Calls Try.prog 18 #[.slice B m d] w1 (RowEnd (allN L2) w1)) := Lib.hid (fun w1 L B m d s kd h => r12All_any B m d L2 w1 h.row.arg (h.few (by omega)))
            unfold RowEnd at HAL HRA
            have HRP := Lib.hid (RnS.runpin S0.out (by omega))
            have HPI : Hid (∀ w1 B m d, RnS W w1 P mb L (L.erase v) B m d wr.heap.size 1 v → _) := Lib.hid (fun w1 B m d h => RnS.unpin h hv (by omega))
            rw [hL2] at HRP HPI
            obtain ⟨bv, hbv⟩ : ∃ b, decide (v ∈ L) = b := ⟨_, rfl⟩
            rw [hbv] at HRP HPI
            have hbb : (bv != bv) = false := by simp
            clear hv hbv
            go_wp2_with (first
              | (go_at_call 10; (try rw [HX.out]); (with_reducible refine HRP.out.mono ?_); rintro e w3 ⟨A4, n4, c4, rfl, h3⟩; have d30 := h3.c0; have d31 := h3.c1; have S3 := Lib.hid h3; clear h3)
              | (go_at_call 11; (with_reducible refine (HPI.out _ _ _ _ S3.out).mono ?_); rintro e w4 ⟨rfl, h4⟩; have d40 := h4.c0; have d41 := h4.c1; have S4 := Lib.hid h4; clear h4)
              | (go_at_call 12; (try rw [HX.out]); (with_reducible refine (HOL.out _ _ _ _ _ _ _ S4.out).mono ?_); rintro e w5 ⟨rfl, b5⟩; have S5 := Lib.hid (S4.out.below b5); clear b5)
              | (go_at_call 13; (with_reducible refine (HRO.out _ _ _ _ _ _ _ S5.out).mono ?_); rintro e w6 ⟨rfl, rfl⟩))
            have S6 := S5.out.below (Below.refl _ _).drew
            have hS6 : (fun w' : World => w'.cell? ⟨wr.heap.size, 1, none⟩ = some (.int .u64 (v : Int))) w5.drew := S6.c1
            rename_i K hK
            refine wp_held (fun w' : World => w'.cell? ⟨wr.heap.size, 1, none⟩ = some (.int .u64 (v : Int))) K hmx ?_ (fun _ _ h => h)
            refine wpAnyH_take (i := 0) (v := .int .u64 (ox : Int)) (lit rfl) (by kernel_rfl) (by kernel_rfl) (by kernel_rfl) (fun _ _ _ h => h) (Or.inl ⟨by rfl, ?_⟩) hS6 ?_
            · rintro w6 k1
              go_simp
            simp only [Act.put, List.setIfInBounds_toArray, List.set_cons_zero, List.set_cons_succ]
            refine wpAnyH_take (i := 1) (v := .int .u64 (ox : Int)) (lit rfl) (by kernel_rfl) (by kernel_rfl) (by kernel_rfl) (fun _ _ _ h => h) (Or.inl ⟨by rfl, ?_⟩) hS6 ?_
            · rintro w6 k1
              go_simp
            simp only [Act.put, List.setIfInBounds_toArray, List.set_cons_zero, List.set_cons_succ]
            refine wpAnyH_take (i := 2) (v := .bool false) (lit rfl) (by kernel_rfl) (by kernel_rfl) (by kernel_rfl) (fun _ _ _ h => h) (Or.inl ⟨by rfl, ?_⟩) hS6 ?_
            · rintro w6 k1
              go_simp
            simp only [Act.put, List.setIfInBounds_toArray, List.set_cons_zero, List.set_cons_succ]
            refine wpAnyH_take (i := 3) (v := .bool false) (lit rfl) (by kernel_rfl) (by kernel_rfl) (by kernel_rfl) (fun _ _ _ h => h) (Or.inl ⟨by rfl, ?_⟩) hS6 ?_
            · rintro w6 k1
              go_simp
            simp only [Act.put, List.setIfInBounds_toArray, List.set_cons_zero, List.set_cons_succ]
            refine wpAnyH_take (i := 4) (v := .bool ob) (lit rfl) (by kernel_rfl) (by kernel_rfl) (by kernel_rfl) (fun _ _ _ h => h) (Or.inl ⟨by rfl, ?_⟩) hS6 ?_
            · rintro w6 k1
              go_simp
            simp only [Act.put, List.setIfInBounds_toArray, List.set_cons_zero, List.set_cons_succ]
            refine wpAnyH_take (i := 5) (v := .bool ob) (lit rfl) (by kernel_rfl) (by kernel_rfl) (by kernel_rfl) (fun _ _ _ h => h) (Or.inl ⟨by rfl, ?_⟩) hS6 ?_
            · rintro w6 k1
              go_simp
            simp only [Act.put, List.setIfInBounds_toArray, List.set_cons_zero, List.set_cons_succ]
            refine wpAnyH_take (i := 6) (v := .bool false) (lit rfl) (by kernel_rfl) (by kernel_rfl) (by kernel_rfl) (fun _ _ _ h => h) (Or.inl ⟨by rfl, ?_⟩) hS6 ?_
            · rintro w6 k1
              go_simp
            simp only [Act.put, List.setIfInBounds_toArray, List.set_cons_zero, List.set_cons_succ]
            refine wpAnyH_take (i := 7) (v := .bool false) (lit rfl) (by kernel_rfl) (by kernel_rfl) (by kernel_rfl) (fun _ _ _ h => h) (Or.inl ⟨by rfl, ?_⟩) hS6 ?_
            · rintro w6 k1
              go_simp
            simp only [Act.put, List.setIfInBounds_toArray, List.set_cons_zero, List.set_cons_succ]
            refine wpAnyH_take (i := 8) (v := .bool false) (lit rfl) (by kernel_rfl) (by kernel_rfl) (by kernel_rfl) (fun _ _ _ h => h) (Or.inl ⟨by rfl, ?_⟩) hS6 ?_
            · rintro w6 k1
              go_simp
            simp only [Act.put, List.setIfInBounds_toArray, List.set_cons_zero, List.set_cons_succ]
            refine wpAnyH_take (i := 9) (v := .pointer (some ⟨P, 0, none⟩)) (lit rfl) (by kernel_rfl) (by kernel_rfl) (by kernel_rfl) (fun _ _ _ h => h) (Or.inl ⟨by rfl, ?_⟩) hS6 ?_
            · rintro w6 k1
              go_simp
            simp only [Act.put, List.setIfInBounds_toArray, List.set_cons_zero, List.set_cons_succ]
            refine wpAnyH_take (i := 10) (v := .pointer (some ⟨wr.heap.size, 1, none⟩)) (lit rfl) (by kernel_rfl) (by kernel_rfl) (by kernel_rfl) (fun _ _ _ h => h) (Or.inl ⟨by rfl, ?_⟩) hS6 ?_
            · rintro w6 k1
              go_simp
            simp only [Act.put, List.setIfInBounds_toArray, List.set_cons_zero, List.set_cons_succ]
            refine wpAnyH_take (i := 11) (v := .int .u64 (v : Int)) (lit rfl) (by kernel_rfl) (by kernel_rfl) (by kernel_rfl) (fun _ _ _ h => h) (Or.inl ⟨by rfl, ?_⟩) hS6 ?_
            · rintro w6 k1
              go_simp
            simp only [Act.put, List.setIfInBounds_toArray, List.set_cons_zero, List.set_cons_succ]
            refine wpAnyH_take (i := 13) (v := .slice A4 n4 c4) (lit rfl) (by kernel_rfl) (by kernel_rfl) (by kernel_rfl) (fun _ _ _ h => h) (Or.inl ⟨by rfl, ?_⟩) hS6 ?_
            · rintro w6 k1
              go_simp
            simp only [Act.put, List.setIfInBounds_toArray, List.set_cons_zero, List.set_cons_succ]
            refine wpAnyH_take (i := 14) (v := .pointer (some ⟨wr.heap.size, 1, none⟩)) (lit rfl) (by kernel_rfl) (by kernel_rfl) (by kernel_rfl) (fun _ _ _ h => h) (Or.inl ⟨by rfl, ?_⟩) hS6 ?_
            · rintro w6 k1
              go_simp
            simp only [Act.put, List.setIfInBounds_toArray, List.set_cons_zero, List.set_cons_succ]
            refine wpAnyH_take (i := 15) (v := .int .u64 (v : Int)) (lit rfl) (by kernel_rfl) (by kernel_rfl) (by kernel_rfl) (fun _ _ _ h => h) (Or.inl ⟨by rfl, ?_⟩) hS6 ?_
            · rintro w6 k1
              go_simp
            simp only [Act.put, List.setIfInBounds_toArray, List.set_cons_zero, List.set_cons_succ]
            refine wpAnyH_ready (rs := [12]) (by kernel_rfl) (by simp) ?_
            refine AllReadyH.cons (lit rfl) (fun K5 hK5 => ?_) AllReadyH.nil
            go_simp
            go_at_call 14
            (with_reducible refine (HHE.out _ _ _ _ _ _ _ S6).mono ?_)
            rintro e7 w7 ⟨rfl, b7⟩
            have S7 := S6.below b7
            have hS7 : (fun w' : World => w'.cell? ⟨wr.heap.size, 1, none⟩ = some (.int .u64 (v : Int))) w7 := S7.c1
            clear b7
            refine hK5.out _ _ hS7 (fun _ => ?_)
            clear hK5 K5
            refine wpAnyH_ready (rs := [16]) (by kernel_rfl) (by simp) ?_
            refine AllReadyH.cons (lit rfl) (fun K5 hK5 => ?_) AllReadyH.nil
            go_simp
            go_at_call 15
            (with_reducible refine (HRH.out _ _ _ _ _ _ _ S7).mono ?_)
            rintro e8 w8 ⟨rfl, rfl⟩
            refine hK5.out _ _ hS7 (fun _ => ?_)
            clear hK5 K5
            refine wpAnyH_take (i := 17) (v := .bool false) (lit rfl) (by kernel_rfl) (by kernel_rfl) (by kernel_rfl) (fun _ _ _ h => h) (Or.inl ⟨by rfl, ?_⟩) hS7 ?_
            · rintro w6 k1
              go_simp
            simp only [Act.put, List.setIfInBounds_toArray, List.set_cons_zero, List.set_cons_succ]
            refine wpAnyH_take (i := 18) (v := .bool false) (lit rfl) (by kernel_rfl) (by kernel_rfl) (by kernel_rfl) (fun _ _ _ h => h) (Or.inl ⟨by rfl, ?_⟩) hS7 ?_
            · rintro w6 k1
              go_simp
            simp only [Act.put, List.setIfInBounds_toArray, List.set_cons_zero, List.set_cons_succ]
            refine wpAnyH_take (i := 19) (v := .bool false) (lit rfl) (by kernel_rfl) (by kernel_rfl) (by kernel_rfl) (fun _ _ _ h => h) (Or.inl ⟨by rfl, ?_⟩) hS7 ?_
            · rintro w6 k1
              go_simp
            simp only [Act.put, List.setIfInBounds_toArray, List.set_cons_zero, List.set_cons_succ]
            refine wpAnyH_take (i := 20) (v := .pointer (some ⟨P, 0, none⟩)) (lit rfl) (by kernel_rfl) (by kernel_rfl) (by kernel_rfl) (fun _ _ _ h => h) (Or.inl ⟨by rfl, ?_⟩) hS7 ?_
            · rintro w6 k1
              go_simp
            simp only [Act.put, List.setIfInBounds_toArray, List.set_cons_zero, List.set_cons_succ]
            refine wpAnyH_take (i := 22) (v := .slice A4 n4 c4) (lit rfl) (by kernel_rfl) (by kernel_rfl) (by kernel_rfl) (fun _ _ _ h => h) (Or.inl ⟨by rfl, ?_⟩) hS7 ?_
            · rintro w6 k1
              go_simp
            simp only [Act.put, List.setIfInBounds_toArray, List.set_cons_zero, List.set_cons_succ]
            refine wpAnyH_ready (rs := [21]) (by kernel_rfl) (by simp) ?_
            refine AllReadyH.cons (lit rfl) (fun K5 hK5 => ?_) AllReadyH.nil
            go_simp
            go_at_call 17
            (with_reducible refine (HAL.out _ _ _ _ _ _ _ S7).mono ?_)
            rintro e9 w9 ⟨A9, n9, c9, rfl, r9, b9⟩
            have S9 := S7.below b9
            have hS9 : (fun w' : World => w'.cell? ⟨wr.heap.size, 1, none⟩ = some (.int .u64 (v : Int))) w9 := S9.c1
            clear b9
            refine hK5.out _ _ hS9 (fun _ => ?_)
            clear hK5 K5
            refine wpAnyH_ready (rs := [23]) (by kernel_rfl) (by simp) ?_
            refine AllReadyH.cons (lit rfl) (fun K5 hK5 => ?_) AllReadyH.nil
            go_simp
            go_at_call 18
            (with_reducible refine (HRA.out _ _ _ _ _ _ _ S9).mono ?_)
            rintro e10 w10 ⟨A10, n10, c10, rfl, r10, b10⟩
            have S10 := S9.below b10
            have hS10 : (fun w' : World => w'.cell? ⟨wr.heap.size, 1, none⟩ = some (.int .u64 (v : Int))) w10 := S10.c1
            have r9b := r9.below b10
            clear b10 r9
            refine hK5.out _ _ hS10 (fun _ => ?_)
            clear hK5 K5
            refine wpAnyH_ready (rs := [24]) (by kernel_rfl) (by simp) ?_
            refine AllReadyH.cons (lit rfl) (fun K5 hK5 => ?_) AllReadyH.nil
            go_simp
            go_at_call 16
            (with_reducible refine (HSM.out _ _ _ _ _ _ _ _ r9b r10 (by omega)).mono ?_)
            rintro e11 w11 ⟨rfl, b11⟩
            have S11 := S10.below b11
            have hS11 : (fun w' : World => w'.cell? ⟨wr.heap.size, 1, none⟩ = some (.int .u64 (v : Int))) w11 := S11.c1
            clear b11 r9b r10
            refine hK5.out _ _ hS11 (fun _ => ?_)
            clear hK5 K5
            refine wpAnyH_take (i := 25) (v := .bool false) (lit rfl) (by kernel_rfl) (by kernel_rfl) (by kernel_rfl) (fun _ _ _ h => h) (Or.inl ⟨by rfl, ?_⟩) hS11 ?_
            · rintro w6 k1
              go_simp
            simp only [Act.put, List.setIfInBounds_toArray, List.set_cons_zero, List.set_cons_succ]
            refine wpAnyH_take (i := 26) (v := .bool false) (lit rfl) (by kernel_rfl) (by kernel_rfl) (by kernel_rfl) (fun _ _ _ h => h) (Or.inl ⟨by rfl, ?_⟩) hS11 ?_
            · rintro w6 k1
              go_simp
            simp only [Act.put, List.setIfInBounds_toArray, List.set_cons_zero, List.set_cons_succ]
            refine wpAnyH_done (by kernel_rfl) ?_ _
            refine hK _ _ ?_
            go_wp2
            go_roundw
            case rel => exact ⟨k + 1, _, _, _, _, by omega, by go_num, rfl, S11.pb, S11.row, hlen⟩
            case measure => simp [intOf]; omega
          · have he0 : (kd == 0) = false := by simpa using h0
            have he1 : (kd == 1) = false := by simpa using h1
            obtain ⟨L2, hL2⟩ : ∃ L2, L = L2 := ⟨_, rfl⟩
            have hlen : L2.length ≤ k + 1 := by rw [← hL2]; omega
            obtain ⟨⟨ox, ob⟩, hox⟩ : ∃ o, oldN L2 = o := ⟨_, rfl⟩
            have HOL : Hid (∀ w1 M B m d s kd, RnS W w1 P mb L2 M B m d s kd v → Calls Try.prog 12 #[.pointer (some ⟨P, 0, none⟩)] w1 fun e w' => e = .returned (.tuple #[.int .u64 (ox : Int), .bool ob]) ∧ Below w1.heap.size w1 w') := Lib.hid (fun w1 M B m d s kd h => by have := piOldest_any h.pb.pn (by omega); rw [hox] at this; exact this)
            have HRO : Hid (∀ w1 L B m d s kd, RnS W w1 P mb L L2 B m d s kd v → Calls Try.prog 13 #[.slice B m d] w1 fun e w' => e = .returned (.tuple #[.int .u64 (ox : Int), .bool ob]) ∧ w1 = w') := Lib.hid (fun w1 L B m d s kd h => by have := r12Oldest_any B m d L2 w1 h.row.arg (by have := h.few (by omega); omega); rw [hox] at this; exact this)
            have HHE : Hid (∀ w1 M B m d s kd, RnS W w1 P mb L2 M B m d s kd v → Calls Try.prog 14 #[.pointer (some ⟨P, 0, none⟩), .int .u64 (v : Int)] w1 fun e w' => e = .returned (.int .i64 (L2.count v : Int)) ∧ Below w1.heap.size w1 w') := Lib.hid (fun w1 M B m d s kd h => piHeld_any v h.pb.pn hv (by omega))
            have HRH : Hid (∀ w1 L B m d s kd, RnS W w1 P mb L L2 B m d s kd v → Calls Try.prog 15 #[.slice B m d, .int .u64 (v : Int)] w1 fun e w' => e = .returned (.int .i64 (L2.count v : Int)) ∧ w1 = w') := Lib.hid (fun w1 L B m d s kd h => r12Held_any B m d L2 v w1 h.row.arg (by have := h.few (by omega); omega))
            have HAL : Hid (∀ w1 M B m d s kd, RnS W w1 P mb L2 M B m d s kd v → Calls Try.prog 17 #[.pointer (some ⟨P, 0, none⟩)] w1 (RowEnd (allN L2) w1)) := Lib.hid (fun w1 M B m d s kd h => piAll_any h.pb.pn (by omega))
            have HRA : Hid (∀ w1 L B m d s kd, RnS W w1 P mb L L2 B m d s kd v → Calls Try.prog 18 #[.slice B m d] w1 (RowEnd (allN L2) w1)) := Lib.hid (fun w1 L B m d s kd h => r12All_any B m d L2 w1 h.row.arg (h.few (by omega)))
            unfold RowEnd at HAL HRA
            subst hL2
            have S4 := S0
            clear hv
            go_wp2_with (first
              | (go_at_call 12; (try rw [HX.out]); (with_reducible refine (HOL.out _ _ _ _ _ _ _ S4.out).mono ?_); rintro e w5 ⟨rfl, b5⟩; have S5 := Lib.hid (S4.out.below b5); clear b5)
              | (go_at_call 13; (with_reducible refine (HRO.out _ _ _ _ _ _ _ S5.out).mono ?_); rintro e w6 ⟨rfl, rfl⟩))
            have S6 := S5.out.below (Below.refl _ _).drew
            have hS6 : (fun w' : World => w'.cell? ⟨wr.heap.size, 1, none⟩ = some (.int .u64 (v : Int))) w5.drew := S6.c1
            rename_i K hK
            refine wp_held (fun w' : World => w'.cell? ⟨wr.heap.size, 1, none⟩ = some (.int .u64 (v : Int))) K hmx ?_ (fun _ _ h => h)
            refine wpAnyH_take (i := 0) (v := .int .u64 (ox : Int)) (lit rfl) (by kernel_rfl) (by kernel_rfl) (by kernel_rfl) (fun _ _ _ h => h) (Or.inl ⟨by rfl, ?_⟩) hS6 ?_
            · rintro w6 k1
              go_simp
            simp only [Act.put, List.setIfInBounds_toArray, List.set_cons_zero, List.set_cons_succ]
            refine wpAnyH_take (i := 1) (v := .int .u64 (ox : Int)) (lit rfl) (by kernel_rfl) (by kernel_rfl) (by kernel_rfl) (fun _ _ _ h => h) (Or.inl ⟨by rfl, ?_⟩) hS6 ?_
            · rintro w6 k1
              go_simp
            simp only [Act.put, List.setIfInBounds_toArray, List.set_cons_zero, List.set_cons_succ]
            refine wpAnyH_take (i := 2) (v := .bool false) (lit rfl) (by kernel_rfl) (by kernel_rfl) (by kernel_rfl) (fun _ _ _ h => h) (Or.inl ⟨by rfl, ?_⟩) hS6 ?_
            · rintro w6 k1
              go_simp
            simp only [Act.put, List.setIfInBounds_toArray, List.set_cons_zero, List.set_cons_succ]
            refine wpAnyH_take (i := 3) (v := .bool false) (lit rfl) (by kernel_rfl) (by kernel_rfl) (by kernel_rfl) (fun _ _ _ h => h) (Or.inl ⟨by rfl, ?_⟩) hS6 ?_
            · rintro w6 k1
              go_simp
            simp only [Act.put, List.setIfInBounds_toArray, List.set_cons_zero, List.set_cons_succ]
            refine wpAnyH_take (i := 4) (v := .bool ob) (lit rfl) (by kernel_rfl) (by kernel_rfl) (by kernel_rfl) (fun _ _ _ h => h) (Or.inl ⟨by rfl, ?_⟩) hS6 ?_
            · rintro w6 k1
              go_simp
            simp only [Act.put, List.setIfInBounds_toArray, List.set_cons_zero, List.set_cons_succ]
            refine wpAnyH_take (i := 5) (v := .bool ob) (lit rfl) (by kernel_rfl) (by kernel_rfl) (by kernel_rfl) (fun _ _ _ h => h) (Or.inl ⟨by rfl, ?_⟩) hS6 ?_
            · rintro w6 k1
              go_simp
            simp only [Act.put, List.setIfInBounds_toArray, List.set_cons_zero, List.set_cons_succ]
            refine wpAnyH_take (i := 6) (v := .bool false) (lit rfl) (by kernel_rfl) (by kernel_rfl) (by kernel_rfl) (fun _ _ _ h => h) (Or.inl ⟨by rfl, ?_⟩) hS6 ?_
            · rintro w6 k1
              go_simp
            simp only [Act.put, List.setIfInBounds_toArray, List.set_cons_zero, List.set_cons_succ]
            refine wpAnyH_take (i := 7) (v := .bool false) (lit rfl) (by kernel_rfl) (by kernel_rfl) (by kernel_rfl) (fun _ _ _ h => h) (Or.inl ⟨by rfl, ?_⟩) hS6 ?_
            · rintro w6 k1
              go_simp
            simp only [Act.put, List.setIfInBounds_toArray, List.set_cons_zero, List.set_cons_succ]
            refine wpAnyH_take (i := 8) (v := .bool false) (lit rfl) (by kernel_rfl) (by kernel_rfl) (by kernel_rfl) (fun _ _ _ h => h) (Or.inl ⟨by rfl, ?_⟩) hS6 ?_
            · rintro w6 k1
              go_simp
            simp only [Act.put, List.setIfInBounds_toArray, List.set_cons_zero, List.set_cons_succ]
            refine wpAnyH_take (i := 9) (v := .pointer (some ⟨P, 0, none⟩)) (lit rfl) (by kernel_rfl) (by kernel_rfl) (by kernel_rfl) (fun _ _ _ h => h) (Or.inl ⟨by rfl, ?_⟩) hS6 ?_
            · rintro w6 k1
              go_simp
            simp only [Act.put, List.setIfInBounds_toArray, List.set_cons_zero, List.set_cons_succ]
            refine wpAnyH_take (i := 10) (v := .pointer (some ⟨wr.heap.size, 1, none⟩)) (lit rfl) (by kernel_rfl) (by kernel_rfl) (by kernel_rfl) (fun _ _ _ h => h) (Or.inl ⟨by rfl, ?_⟩) hS6 ?_
            · rintro w6 k1
              go_simp
            simp only [Act.put, List.setIfInBounds_toArray, List.set_cons_zero, List.set_cons_succ]
            refine wpAnyH_take (i := 11) (v := .int .u64 (v : Int)) (lit rfl) (by kernel_rfl) (by kernel_rfl) (by kernel_rfl) (fun _ _ _ h => h) (Or.inl ⟨by rfl, ?_⟩) hS6 ?_
            · rintro w6 k1
              go_simp
            simp only [Act.put, List.setIfInBounds_toArray, List.set_cons_zero, List.set_cons_succ]
            refine wpAnyH_take (i := 13) (v := .slice A1 n1 c1) (lit rfl) (by kernel_rfl) (by kernel_rfl) (by kernel_rfl) (fun _ _ _ h => h) (Or.inl ⟨by rfl, ?_⟩) hS6 ?_
            · rintro w6 k1
              go_simp
            simp only [Act.put, List.setIfInBounds_toArray, List.set_cons_zero, List.set_cons_succ]
            refine wpAnyH_take (i := 14) (v := .pointer (some ⟨wr.heap.size, 1, none⟩)) (lit rfl) (by kernel_rfl) (by kernel_rfl) (by kernel_rfl) (fun _ _ _ h => h) (Or.inl ⟨by rfl, ?_⟩) hS6 ?_
            · rintro w6 k1
              go_simp
            simp only [Act.put, List.setIfInBounds_toArray, List.set_cons_zero, List.set_cons_succ]
            refine wpAnyH_take (i := 15) (v := .int .u64 (v : Int)) (lit rfl) (by kernel_rfl) (by kernel_rfl) (by kernel_rfl) (fun _ _ _ h => h) (Or.inl ⟨by rfl, ?_⟩) hS6 ?_
            · rintro w6 k1
              go_simp
            simp only [Act.put, List.setIfInBounds_toArray, List.set_cons_zero, List.set_cons_succ]
            refine wpAnyH_ready (rs := [12]) (by kernel_rfl) (by simp) ?_
            refine AllReadyH.cons (lit rfl) (fun K5 hK5 => ?_) AllReadyH.nil
            go_simp
            go_at_call 14
            (with_reducible refine (HHE.out _ _ _ _ _ _ _ S6).mono ?_)
            rintro e7 w7 ⟨rfl, b7⟩
            have S7 := S6.below b7
            have hS7 : (fun w' : World => w'.cell? ⟨wr.heap.size, 1, none⟩ = some (.int .u64 (v : Int))) w7 := S7.c1
            clear b7
            refine hK5.out _ _ hS7 (fun _ => ?_)
            clear hK5 K5
            refine wpAnyH_ready (rs := [16]) (by kernel_rfl) (by simp) ?_
            refine AllReadyH.cons (lit rfl) (fun K5 hK5 => ?_) AllReadyH.nil
            go_simp
            go_at_call 15
            (with_reducible refine (HRH.out _ _ _ _ _ _ _ S7).mono ?_)
            rintro e8 w8 ⟨rfl, rfl⟩
            refine hK5.out _ _ hS7 (fun _ => ?_)
            clear hK5 K5
            refine wpAnyH_take (i := 17) (v := .bool false) (lit rfl) (by kernel_rfl) (by kernel_rfl) (by kernel_rfl) (fun _ _ _ h => h) (Or.inl ⟨by rfl, ?_⟩) hS7 ?_
            · rintro w6 k1
              go_simp
            simp only [Act.put, List.setIfInBounds_toArray, List.set_cons_zero, List.set_cons_succ]
            refine wpAnyH_take (i := 18) (v := .bool false) (lit rfl) (by kernel_rfl) (by kernel_rfl) (by kernel_rfl) (fun _ _ _ h => h) (Or.inl ⟨by rfl, ?_⟩) hS7 ?_
            · rintro w6 k1
              go_simp
            simp only [Act.put, List.setIfInBounds_toArray, List.set_cons_zero, List.set_cons_succ]
            refine wpAnyH_take (i := 19) (v := .bool false) (lit rfl) (by kernel_rfl) (by kernel_rfl) (by kernel_rfl) (fun _ _ _ h => h) (Or.inl ⟨by rfl, ?_⟩) hS7 ?_
            · rintro w6 k1
              go_simp
            simp only [Act.put, List.setIfInBounds_toArray, List.set_cons_zero, List.set_cons_succ]
            refine wpAnyH_take (i := 20) (v := .pointer (some ⟨P, 0, none⟩)) (lit rfl) (by kernel_rfl) (by kernel_rfl) (by kernel_rfl) (fun _ _ _ h => h) (Or.inl ⟨by rfl, ?_⟩) hS7 ?_
            · rintro w6 k1
              go_simp
            simp only [Act.put, List.setIfInBounds_toArray, List.set_cons_zero, List.set_cons_succ]
            refine wpAnyH_take (i := 22) (v := .slice A1 n1 c1) (lit rfl) (by kernel_rfl) (by kernel_rfl) (by kernel_rfl) (fun _ _ _ h => h) (Or.inl ⟨by rfl, ?_⟩) hS7 ?_
            · rintro w6 k1
              go_simp
            simp only [Act.put, List.setIfInBounds_toArray, List.set_cons_zero, List.set_cons_succ]
            refine wpAnyH_ready (rs := [21]) (by kernel_rfl) (by simp) ?_
            refine AllReadyH.cons (lit rfl) (fun K5 hK5 => ?_) AllReadyH.nil
            go_simp
            go_at_call 17
            (with_reducible refine (HAL.out _ _ _ _ _ _ _ S7).mono ?_)
            rintro e9 w9 ⟨A9, n9, c9, rfl, r9, b9⟩
            have S9 := S7.below b9
            have hS9 : (fun w' : World => w'.cell? ⟨wr.heap.size, 1, none⟩ = some (.int .u64 (v : Int))) w9 := S9.c1
            clear b9
            refine hK5.out _ _ hS9 (fun _ => ?_)
            clear hK5 K5
            refine wpAnyH_ready (rs := [23]) (by kernel_rfl) (by simp) ?_
            refine AllReadyH.cons (lit rfl) (fun K5 hK5 => ?_) AllReadyH.nil
            go_simp
            go_at_call 18
            (with_reducible refine (HRA.out _ _ _ _ _ _ _ S9).mono ?_)
            rintro e10 w10 ⟨A10, n10, c10, rfl, r10, b10⟩
            have S10 := S9.below b10
            have hS10 : (fun w' : World => w'.cell? ⟨wr.heap.size, 1, none⟩ = some (.int .u64 (v : Int))) w10 := S10.c1
            have r9b := r9.below b10
            clear b10 r9
            refine hK5.out _ _ hS10 (fun _ => ?_)
            clear hK5 K5
            refine wpAnyH_ready (rs := [24]) (by kernel_rfl) (by simp) ?_
            refine AllReadyH.cons (lit rfl) (fun K5 hK5 => ?_) AllReadyH.nil
            go_simp
            go_at_call 16
            (with_reducible refine (HSM.out _ _ _ _ _ _ _ _ r9b r10 (by omega)).mono ?_)
            rintro e11 w11 ⟨rfl, b11⟩
            have S11 := S10.below b11
            have hS11 : (fun w' : World => w'.cell? ⟨wr.heap.size, 1, none⟩ = some (.int .u64 (v : Int))) w11 := S11.c1
            clear b11 r9b r10
            refine hK5.out _ _ hS11 (fun _ => ?_)
            clear hK5 K5
            refine wpAnyH_take (i := 25) (v := .bool false) (lit rfl) (by kernel_rfl) (by kernel_rfl) (by kernel_rfl) (fun _ _ _ h => h) (Or.inl ⟨by rfl, ?_⟩) hS11 ?_
            · rintro w6 k1
              go_simp
            simp only [Act.put, List.setIfInBounds_toArray, List.set_cons_zero, List.set_cons_succ]
            refine wpAnyH_take (i := 26) (v := .bool false) (lit rfl) (by kernel_rfl) (by kernel_rfl) (by kernel_rfl) (fun _ _ _ h => h) (Or.inl ⟨by rfl, ?_⟩) hS11 ?_
            · rintro w6 k1
              go_simp
            simp only [Act.put, List.setIfInBounds_toArray, List.set_cons_zero, List.set_cons_succ]
            refine wpAnyH_done (by kernel_rfl) ?_ _
            refine hK _ _ ?_
            go_wp2
            go_roundw
            case rel => exact ⟨k + 1, _, _, _, _, by omega, by go_num, rfl, S11.pb, S11.row, hlen⟩
            case measure => simp [intOf]; omega
      · obtain rfl : k = n := by omega
        have hltI : ¬ (k : Int) < (k : Int) := by omega
        have HN1 := Lib.hid (fun w1 => piPin_nil 1 w1)
        have HN2 := Lib.hid (fun w1 => piOldest_nil w1)
        have HN3 := Lib.hid (fun w1 => piUnpin_nil 1 w1)
        have HN4 := Lib.hid (fun w1 => (piHeld_nil 1 w1).mono (fun e w' h => (⟨h.1, h.2 ▸ Below.refl _ _⟩ : _ ∧ Below w1.heap.size w1 w')))
        have HN5 := Lib.hid (fun w1 => piAll_nil w1)
        have B0 := Lib.hid HP.out.bel
        clear HR HP
        go_wp2_with (first
          | (go_at_call 8; (with_reducible refine (HN1.out _).mono ?_); rintro e w3 ⟨rfl, b3⟩; have B3 := Lib.hid (below_step B0.out b3); clear b3)
          | (go_at_call 12; (with_reducible refine (HN2.out _).mono ?_); rintro e w4 ⟨rfl, b4⟩; have B4 := Lib.hid (below_step B3.out b4); clear b4)
          | (go_at_call 11; (with_reducible refine (HN3.out _).mono ?_); rintro e w5 ⟨rfl, b5⟩; have B5 := Lib.hid (below_step B4.out b5); clear b5)
          | (go_at_call 14; (with_reducible refine (HN4.out _).mono ?_); rintro e w6 ⟨rfl, b6⟩; have B6 := Lib.hid (below_step B5.out b6); clear b6)
          | (go_at_call 17; (with_reducible refine (HN5.out _).mono ?_); rintro e w7 ⟨A7, c7, rfl, b7⟩; have B7 := Lib.hid (below_step B6.out b7); clear b7))
        go_ret
        exact ⟨rfl, B7.out⟩
end Go.Proofs.Ytlfmmmgdilencaa
