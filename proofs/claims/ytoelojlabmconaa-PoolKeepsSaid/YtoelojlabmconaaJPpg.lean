import Derived.Test.YtoelojlabmconaaJPpf
import Derived.Shelf.Abstract
/- Of a claim's texts, joined: Ppg. No statement but in the last. -/
namespace Go.Proofs.Ytoelojlabmconaa
open Go.RowKit
set_option linter.unusedVariables false

def rankN (o : Nat) (held : Bool) (t : Nat) : Int := if held = true ∧ o < t then 1 else 0
theorem rankN_two (o : Nat) (held : Bool) (t : Nat) : 0 ≤ rankN o held t ∧ rankN o held t ≤ 1 := by unfold rankN; split <;> omega
theorem rankN_mono {o : Nat} {held : Bool} {a b : Nat} (h : a ≤ b) : rankN o held a ≤ rankN o held b := by
  unfold rankN
  split
  · rename_i h1
    rw [if_pos ⟨h1.1, by omega⟩]
    exact Int.le_refl _
  · split <;> omega
structure RK (w : World) (gR gH gO o : Nat) (held : Bool) : Prop where
  fn : w.cell? ⟨gR, 0, none⟩ = some (.func (.func 29) #[] #[.pointer (some ⟨gH, 0, none⟩), .pointer (some ⟨gO, 0, none⟩)])
  ch : w.cell? ⟨gH, 0, none⟩ = some (.bool held)
  co : w.cell? ⟨gO, 0, none⟩ = some (.int .u64 (o : Int))
section
variable {w w' : World} {gR gH gO o : Nat} {held : Bool}
theorem RK.below (h : RK w gR gH gO o held) (b : Below w.heap.size w w') : RK w' gR gH gO o held := ⟨cell_below h.fn b, cell_below h.ch b, cell_below h.co b⟩
theorem RK.drew (h : RK w gR gH gO o held) : RK w.drew gR gH gO o held := h.below (Below.refl _ _).drew
set_option maxRecDepth 100000 in
theorem relA13_any (t : Nat) (A : Option Addr) (n c : Nat) (h : RK w gR gH gO o held) :
    Calls Try.prog 29 #[.agg #[.int .u64 (t : Int), .slice A n c], .pointer (some ⟨gH, 0, none⟩), .pointer (some ⟨gO, 0, none⟩)] w fun e w' => e = .returned (.int .i64 (rankN o held t)) ∧ Below w.heap.size w w' := by
  obtain ⟨W1, hW1⟩ : ∃ W1, w.alloc (.cells #[.int .u64 (t : Int), .slice A n c] 56) = W1 := ⟨_, rfl⟩
  have hB : Below w.heap.size w W1 := hW1 ▸ (Below.refl _ w).alloc (Nat.le_refl _) _
  have hX : Has W1 w.heap.size 56 #[.int .u64 (t : Int), .slice A n c] := hW1 ▸ Has.made _ _ _
  have h2 := h.below hB
  have k1 := h2.ch
  have k2 := h2.co
  have k3 := hX.cell 0
  have HB := Lib.hid hB
  have HW := Lib.hid hW1
  clear h h2 hX hW1 hB
  cases held with
  | false =>
    have HR : Hid (rankN o false t = 0) := Lib.hid (by unfold rankN; simp)
    go_enter Try.func29, Try.ntmps29
    go_upto_region 1 with fail
    rw [HW.out]
    go_wp2
    go_ret
    rw [HR.out]
    exact ⟨rfl, HB.out⟩
  | true =>
    by_cases hlt : o < t
    · have HR : Hid (rankN o true t = 1) := Lib.hid (by unfold rankN; rw [if_pos ⟨rfl, hlt⟩])
      go_enter Try.func29, Try.ntmps29
      go_upto_region 1 with fail
      rw [HW.out]
      go_wp2
      go_ret
      rw [HR.out]
      exact ⟨rfl, HB.out⟩
    · have HR : Hid (rankN o true t = 0) := Lib.hid (by unfold rankN; rw [if_neg (fun e => hlt e.2)])
      have hle : t ≤ o := by omega
      go_enter Try.func29, Try.ntmps29
      go_upto_region 1 with fail
      rw [HW.out]
      go_wp2
      go_ret
      rw [HR.out]
      exact ⟨rfl, HB.out⟩
set_option maxRecDepth 100000 in
set_option maxHeartbeats 2000000 in
theorem relB13_any (t1 t2 : Nat) (A1 A2 : Option Addr) (n1 c1 n2 c2 : Nat) (h : RK w gR gH gO o held) :
    Calls Try.prog 31 #[.agg #[.int .u64 (t1 : Int), .slice A1 n1 c1], .agg #[.int .u64 (t2 : Int), .slice A2 n2 c2], .pointer (some ⟨gR, 0, none⟩)] w fun e w' => e = .returned (.int .i64 (rankN o held t1 - rankN o held t2)) ∧ Below w.heap.size w w' := by
  have hmx : Try.prog.follows .mixedOrders = true := by kernel_rfl
  obtain ⟨W1, hW1⟩ : ∃ W1, (w.alloc (.cells #[.int .u64 (t1 : Int), .slice A1 n1 c1] 56)).alloc (.cells #[.int .u64 (t2 : Int), .slice A2 n2 c2] 56) = W1 := ⟨_, rfl⟩
  have hB : Below w.heap.size w W1 := hW1 ▸ ((Below.refl _ w).alloc (Nat.le_refl _) _).alloc (by simp) _
  have HB3 : Hid (Has W1 w.heap.size 56 #[.int .u64 (t1 : Int), .slice A1 n1 c1]) := Lib.hid (hW1 ▸ (Has.made w _ _).alloc _)
  have HB4 : Hid (Has W1 (w.heap.size + 1) 56 #[.int .u64 (t2 : Int), .slice A2 n2 c2]) := Lib.hid (by
    have := Has.made (w.alloc (.cells #[.int .u64 (t1 : Int), .slice A1 n1 c1] 56)) 56 #[.int .u64 (t2 : Int), .slice A2 n2 c2]
    rw [hW1] at this
    simpa using this)
  have HRK := Lib.hid (h.below hB)
  have HB := Lib.hid hB
  have HW := Lib.hid hW1
  have HT1 := Lib.hid (rankN_two o held t1)
  have HT2 := Lib.hid (rankN_two o held t2)
  have HC1 : Hid (∀ w1, Below W1.heap.size W1 w1 → _) := Lib.hid (fun w1 b1 => relA13_any (w := w1) t1 A1 n1 c1 (HRK.out.below b1))
  have HC2 : Hid (∀ w1, Below W1.heap.size W1 w1 → _) := Lib.hid (fun w1 b1 => relA13_any (w := w1) t2 A2 n2 c2 (HRK.out.below b1))
  obtain ⟨r1, hr1⟩ : ∃ r, rankN o held t1 = r := ⟨_, rfl⟩
  obtain ⟨r2, hr2⟩ : ∃ r, rankN o held t2 = r := ⟨_, rfl⟩
  rw [hr1] at HC1 HT1 ⊢
  rw [hr2] at HC2 HT2 ⊢
  have u1 := HT1.out.1
  have u2 := HT1.out.2
  have u3 := HT2.out.1
  have u4 := HT2.out.2
  have hw := (by rw [IntKind.wrap_i64]; omega : IntKind.i64.wrap (r1 - r2) = r1 - r2)
  have hS0 : (fun w' : World => Below W1.heap.size W1 w') W1.drew := (Below.refl _ _).drew
  clear h hW1 hB hr1 hr2
  go_enter Try.func31, Try.ntmps31
  go_wp2
  try rw [HW.out]
  first | (rename_i K hK; refine wp_held (fun w' : World => Below W1.heap.size W1 w') K hmx ?_ (fun _ _ h => h)) | (rename_i K hK hz; refine wp_held (fun w' : World => Below W1.heap.size W1 w') K hmx ?_ (fun _ _ h => h))
  refine wpAnyH_take (i := 0) (v := .func (.func 29) #[] #[.pointer (some ⟨gH, 0, none⟩), .pointer (some ⟨gO, 0, none⟩)]) (lit rfl) (by kernel_rfl) (by kernel_rfl) (by kernel_rfl) (fun _ _ _ h => h) (Or.inl ⟨by rfl, ?_⟩) hS0 ?_
  · rintro w6 sb
    have k0 := (HRK.out.below sb).fn
    go_simp
  simp only [Act.put, List.setIfInBounds_toArray, List.set_cons_zero, List.set_cons_succ]
  refine wpAnyH_take (i := 1) (v := .agg #[.int .u64 (t1 : Int), .slice A1 n1 c1]) (lit rfl) (by kernel_rfl) (by kernel_rfl) (by kernel_rfl) (fun _ _ _ h => h) (Or.inl ⟨by rfl, ?_⟩) hS0 ?_
  · rintro w6 sb
    have a0 := (HB3.out.below sb HB3.out.lt).cell 0
    have a1 := (HB3.out.below sb HB3.out.lt).cell 1
    go_simp
  simp only [Act.put, List.setIfInBounds_toArray, List.set_cons_zero, List.set_cons_succ]
  refine wpAnyH_take (i := 3) (v := .func (.func 29) #[] #[.pointer (some ⟨gH, 0, none⟩), .pointer (some ⟨gO, 0, none⟩)]) (lit rfl) (by kernel_rfl) (by kernel_rfl) (by kernel_rfl) (fun _ _ _ h => h) (Or.inl ⟨by rfl, ?_⟩) hS0 ?_
  · rintro w6 sb
    have k0 := (HRK.out.below sb).fn
    go_simp
  simp only [Act.put, List.setIfInBounds_toArray, List.set_cons_zero, List.set_cons_succ]
  refine wpAnyH_take (i := 4) (v := .agg #[.int .u64 (t2 : Int), .slice A2 n2 c2]) (lit rfl) (by kernel_rfl) (by kernel_rfl) (by kernel_rfl) (fun _ _ _ h => h) (Or.inl ⟨by rfl, ?_⟩) hS0 ?_
  · rintro w6 sb
    have a0 := (HB4.out.below sb HB4.out.lt).cell 0
    have a1 := (HB4.out.below sb HB4.out.lt).cell 1
    go_simp
  simp only [Act.put, List.setIfInBounds_toArray, List.set_cons_zero, List.set_cons_succ]
  refine wpAnyH_ready (rs := [2]) (by kernel_rfl) (by simp) ?_
  refine AllReadyH.cons (lit rfl) (fun K5 hK5 => ?_) AllReadyH.nil
  refine step_open rfl ?_
  go_simp
  go_at_call 29
  (with_reducible refine (HC1.out _ hS0).mono ?_)
  rintro e20 w20 ⟨rfl, b20⟩
  have h20 : (fun w' : World => Below W1.heap.size W1 w') w20 := hS0.trans (b20.mono hS0.size)
  refine hK5.out _ _ h20 (fun _ => ?_)
  clear hK5 K5
  refine wpAnyH_ready (rs := [5]) (by kernel_rfl) (by simp) ?_
  refine AllReadyH.cons (lit rfl) (fun K5 hK5 => ?_) AllReadyH.nil
  refine step_open rfl ?_
  go_simp
  go_at_call 29
  (with_reducible refine (HC2.out _ h20).mono ?_)
  rintro e21 w21 ⟨rfl, b21⟩
  have h21 : (fun w' : World => Below W1.heap.size W1 w') w21 := h20.trans (b21.mono h20.size)
  refine hK5.out _ _ h21 (fun _ => ?_)
  clear hK5 K5
  refine wpAnyH_take (i := 6) (v := .int .i64 (r1 - r2)) (lit rfl) (by kernel_rfl) (by kernel_rfl) (by kernel_rfl) (fun _ _ _ h => h) (Or.inl ⟨by rfl, ?_⟩) h21 ?_
  · rintro w6 sb
    go_simp
  simp only [Act.put, List.setIfInBounds_toArray, List.set_cons_zero, List.set_cons_succ]
  refine wpAnyH_take (i := 7) (v := .int .i64 (r1 - r2)) (lit rfl) (by kernel_rfl) (by kernel_rfl) (by kernel_rfl) (fun _ _ _ h => h) (Or.inl ⟨by rfl, ?_⟩) h21 ?_
  · rintro w6 sb
    go_simp
  simp only [Act.put, List.setIfInBounds_toArray, List.set_cons_zero, List.set_cons_succ]
  refine wpAnyH_done (by kernel_rfl) ?_ _
  refine hK _ _ ?_
  go_wp2
  go_ret
  exact ⟨rfl, below_step HB.out h21⟩
structure St13 (w : World) (gR gH gO o : Nat) (held : Bool) (B : Option Addr) (m : Nat) (l : List (Nat × List Int)) (ss : List Sl13) : Prop where
  rk : RK w gR gH gO o held
  row : 0 < m → ∃ b off, B = some ⟨b, off, none⟩ ∧ ∀ i, i < m → w.cell? ⟨b, off + i * 2, none⟩ = some (.int .u64 ((l.getD i w00).1 : Int)) ∧ w.cell? ⟨b, off + i * 2 + 1, none⟩ = some (.slice (ss.getD i sl0).1 (ss.getD i sl0).2.1 (ss.getD i sl0).2.2)
theorem St13.below {B : Option Addr} {m : Nat} {l : List (Nat × List Int)} {ss : List Sl13} (h : St13 w gR gH gO o held B m l ss) (b : Below w.heap.size w w') : St13 w' gR gH gO o held B m l ss :=
  ⟨h.rk.below b, fun h0 => by
    obtain ⟨b0, off, e, hc⟩ := h.row h0
    exact ⟨b0, off, e, fun i hi => ⟨cell_below (hc i hi).1 b, cell_below (hc i hi).2 b⟩⟩⟩
def rankW (o : Nat) (held : Bool) (l : List (Nat × List Int)) (i : Nat) : Int := rankN o held (l.getD i w00).1
set_option maxRecDepth 100000 in
set_option maxHeartbeats 2000000 in
theorem relC13_any {B : Option Addr} {m d G i : Nat} {l : List (Nat × List Int)} {ss : List Sl13} (h : St13 w gR gH gO o held B m l ss) (hG : w.cell? ⟨G, 2, none⟩ = some (.slice B m d)) (hi : i < m) :
    Calls Try.prog 33 #[.int .i64 (i : Int), .pointer (some ⟨gR, 0, none⟩), .pointer (some ⟨G, 0, none⟩)] w fun e w' => e = .returned (.bool (rankW o held l i == 1)) ∧ Below w.heap.size w w' := by
  have hmx : Try.prog.follows .mixedOrders = true := by kernel_rfl
  obtain ⟨b, off, rfl, hc⟩ := h.row (by omega)
  obtain ⟨hc1, hc2⟩ := hc i hi
  unfold rankW
  obtain ⟨t, ht⟩ : ∃ t, (l.getD i w00).1 = t := ⟨_, rfl⟩
  obtain ⟨s, hs⟩ : ∃ s, ss.getD i sl0 = s := ⟨_, rfl⟩
  obtain ⟨A1, n1, c1⟩ := s
  rw [ht] at hc1 ⊢
  rw [hs] at hc2
  simp only at hc2
  have HRK := Lib.hid h.rk
  have HC0 := Lib.hid hG
  have HC1 := Lib.hid hc1
  have HC2 := Lib.hid hc2
  have HCL : Hid (∀ w1, Below w.heap.size w w1 → _) := Lib.hid (fun w1 b1 => relA13_any (w := w1) t A1 n1 c1 (HRK.out.below b1))
  obtain ⟨r, hr⟩ : ∃ r, rankN o held t = r := ⟨_, rfl⟩
  rw [hr] at HCL ⊢
  have i0 : (0 : Int) ≤ (i : Int) := by omega
  have i1 : (i : Int) < (m : Int) := by omega
  have hS0 : (fun w' : World => Below w.heap.size w w') w.drew := (Below.refl _ _).drew
  clear h hG hc hc1 hc2 ht hs hr
  go_enter Try.func33, Try.ntmps33
  go_wp2
  first | (rename_i K hK; refine wp_held (fun w' : World => Below w.heap.size w w') K hmx ?_ (fun _ _ h => h)) | (rename_i K hK hz; refine wp_held (fun w' : World => Below w.heap.size w w') K hmx ?_ (fun _ _ h => h))
  refine wpAnyH_take (i := 0) (v := .func (.func 29) #[] #[.pointer (some ⟨gH, 0, none⟩), .pointer (some ⟨gO, 0, none⟩)]) (lit rfl) (by kernel_rfl) (by kernel_rfl) (by kernel_rfl) (fun _ _ _ h => h) (Or.inl ⟨by rfl, ?_⟩) hS0 ?_
  · rintro w6 sb
    have k0 := (HRK.out.below sb).fn
    go_simp
  simp only [Act.put, List.setIfInBounds_toArray, List.set_cons_zero, List.set_cons_succ]
  refine wpAnyH_take (i := 1) (v := .pointer (some ⟨G, 2, none⟩)) (lit rfl) (by kernel_rfl) (by kernel_rfl) (by kernel_rfl) (fun _ _ _ h => h) (Or.inl ⟨by rfl, ?_⟩) hS0 ?_
  · rintro w6 sb
    go_simp
  simp only [Act.put, List.setIfInBounds_toArray, List.set_cons_zero, List.set_cons_succ]
  refine wpAnyH_take (i := 2) (v := .slice (some ⟨b, off, none⟩) m d) (lit rfl) (by kernel_rfl) (by kernel_rfl) (by kernel_rfl) (fun _ _ _ h => h) (Or.inl ⟨by rfl, ?_⟩) hS0 ?_
  · rintro w6 sb
    have k0 := cell_below (w := w) HC0.out sb
    go_simp
  simp only [Act.put, List.setIfInBounds_toArray, List.set_cons_zero, List.set_cons_succ]
  refine wpAnyH_take (i := 3) (v := .int .i64 (i : Int)) (lit rfl) (by kernel_rfl) (by kernel_rfl) (by kernel_rfl) (fun _ _ _ h => h) (Or.inl ⟨by rfl, ?_⟩) hS0 ?_
  · rintro w6 sb
    go_simp
  simp only [Act.put, List.setIfInBounds_toArray, List.set_cons_zero, List.set_cons_succ]
  refine wpAnyH_take (i := 4) (v := .pointer (some ⟨b, off + i * 2, none⟩)) (lit rfl) (by kernel_rfl) (by kernel_rfl) (by kernel_rfl) (fun _ _ _ h => h) (Or.inl ⟨by rfl, ?_⟩) hS0 ?_
  · rintro w6 sb
    go_simp
  simp only [Act.put, List.setIfInBounds_toArray, List.set_cons_zero, List.set_cons_succ]
  refine wpAnyH_take (i := 5) (v := .agg #[.int .u64 (t : Int), .slice A1 n1 c1]) (lit rfl) (by kernel_rfl) (by kernel_rfl) (by kernel_rfl) (fun _ _ _ h => h) (Or.inl ⟨by rfl, ?_⟩) hS0 ?_
  · rintro w6 sb
    have k1 := cell_below (w := w) HC1.out sb
    have k2 := cell_below (w := w) HC2.out sb
    go_simp
  simp only [Act.put, List.setIfInBounds_toArray, List.set_cons_zero, List.set_cons_succ]
  refine wpAnyH_ready (rs := [6]) (by kernel_rfl) (by simp) ?_
  refine AllReadyH.cons (lit rfl) (fun K5 hK5 => ?_) AllReadyH.nil
  refine step_open rfl ?_
  go_simp
  go_at_call 29
  (with_reducible refine (HCL.out _ hS0).mono ?_)
  rintro e20 w20 ⟨rfl, b20⟩
  have h20 : (fun w' : World => Below w.heap.size w w') w20 := hS0.trans (b20.mono hS0.size)
  refine hK5.out _ _ h20 (fun _ => ?_)
  clear hK5 K5
  refine wpAnyH_take (i := 7) (v := .bool (r == 1)) (lit rfl) (by kernel_rfl) (by kernel_rfl) (by kernel_rfl) (fun _ _ _ h => h) (Or.inl ⟨by rfl, ?_⟩) h20 ?_
  · rintro w6 sb
    go_simp
  simp only [Act.put, List.setIfInBounds_toArray, List.set_cons_zero, List.set_cons_succ]
  refine wpAnyH_take (i := 8) (v := .bool (r == 1)) (lit rfl) (by kernel_rfl) (by kernel_rfl) (by kernel_rfl) (fun _ _ _ h => h) (Or.inl ⟨by rfl, ?_⟩) h20 ?_
  · rintro w6 sb
    go_simp
  simp only [Act.put, List.setIfInBounds_toArray, List.set_cons_zero, List.set_cons_succ]
  refine wpAnyH_done (by kernel_rfl) ?_ _
  refine hK _ _ ?_
  go_wp2
  go_ret
  exact ⟨rfl, h20⟩
set_option maxRecDepth 100000 in
set_option maxHeartbeats 2000000 in
/-- sort.Search, of a function that says how the rows rank. -/
theorem sSearch13_any {m g : Nat} {cb : Array Value} (p : Nat → Bool) (hm : m ≤ 1000) (hf : ∀ w1, Below w.heap.size w w1 → ∀ i, i < m → Calls Try.prog g (#[.int .i64 (i : Int)] ++ cb) w1 fun e w' => e = .returned (.bool (p i)) ∧ Below w1.heap.size w1 w')
    (hp : ∀ i j, i ≤ j → j < m → p i = true → p j = true) (eg : ∀ args w, (callFunc g args).run Try.prog w = .ok (.enter g args) w) :
    Calls Try.prog 32 #[.int .i64 (m : Int), .func (.func g) #[] cb] w fun e w' => ∃ k : Nat, e = .returned (.int .i64 (k : Int)) ∧ k ≤ m ∧ (∀ i, i < k → p i = false) ∧ (∀ i, k ≤ i → i < m → p i = true) ∧ Below w.heap.size w w' := by
  have HF := Lib.hid hf
  have HP := Lib.hid hp
  clear hf hp
  go_enter Try.func32, Try.ntmps32
  go_wp2
  go_loopw [5, 6] (fun vi vj wr => ∃ i j : Nat, vi = .int .i64 (i : Int) ∧ vj = .int .i64 (j : Int) ∧ i ≤ j ∧ j ≤ m ∧ (∀ k, k < i → p k = false) ∧ (∀ k, j ≤ k → k < m → p k = true) ∧ Below w.heap.size w wr) (fun vi vj _ => (intOf vj).toNat - (intOf vi).toNat)
  case atStart => exact ⟨0, m, rfl, rfl, Nat.zero_le _, Nat.le_refl _, fun k hk => absurd hk (Nat.not_lt_zero _), fun k h1 h2 => absurd h1 (by omega), Below.refl _ _⟩
  case round =>
    obtain ⟨i, j, rfl, rfl, hij, hjm, h1, h2, hb⟩ := hrel
    have HB := Lib.hid hb
    have H1 := Lib.hid h1
    have H2 := Lib.hid h2
    clear hb h1 h2
    by_cases hlt : i < j
    · have l1 : (i : Int) < (j : Int) := by omega
      obtain ⟨h, hh⟩ : ∃ h : Nat, h = (i + j) / 2 := ⟨_, rfl⟩
      have hq : ((i : Int) + (j : Int)) / 2 = (h : Int) := by omega
      have hih : i ≤ h := by omega
      have hhj : h < j := by omega
      have HC := Lib.hid (HF.out wr HB.out h (by omega))
      clear hh
      cases hp : p h with
      | false =>
        rw [hp] at HC
        have HN : Hid (∀ k, k < h + 1 → p k = false) := Lib.hid (fun k hk => by
          cases e : p k
          · rfl
          · have := HP.out k h (by omega) (by omega) e
            rw [hp] at this
            cases this)
        clear hp
        go_wp2_with (go_at_fn g; refine HC.out.mono ?_; rintro e w5 ⟨rfl, h5⟩; have B5 := Lib.hid (below_step HB.out h5); clear h5)
        go_roundw
        case rel => exact ⟨h + 1, j, by go_num, rfl, by omega, by omega, HN.out, H2.out, B5.out⟩
        case measure => simp [intOf]; omega
      | true =>
        rw [hp] at HC
        have HN : Hid (∀ k, h ≤ k → k < m → p k = true) := Lib.hid (fun k hk hk2 => HP.out h k hk hk2 hp)
        clear hp
        go_wp2_with (go_at_fn g; refine HC.out.mono ?_; rintro e w5 ⟨rfl, h5⟩; have B5 := Lib.hid (below_step HB.out h5); clear h5)
        go_roundw
        case rel => exact ⟨i, h, rfl, rfl, by omega, by omega, H1.out, HN.out, B5.out⟩
        case measure => simp [intOf]; omega
    · obtain rfl : i = j := by omega
      have l1 : ¬ (i : Int) < (i : Int) := by omega
      obtain ⟨w3, hw3⟩ : ∃ w3 : World, w3 = wr := ⟨_, rfl⟩
      subst hw3
      go_wp2
      go_ret
      exact ⟨i, rfl, hjm, H1.out, H2.out, HB.out⟩
end
end Go.Proofs.Ytoelojlabmconaa
