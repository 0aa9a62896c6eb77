import Derived.Test.YtoelojlabmconaaJPoa
import Derived.Test.YtoelojlabmconaaJLatr
import Derived.Deep.Onto
/- Of a claim's texts, joined: Pob. No statement but in the last. -/
namespace Go.Proofs.Ytoelojlabmconaa
open Go.RowKit
set_option linter.unusedVariables false

theorem int_info13 : (Try.prog.info? 3).map (fun i => (i.zero, i.size, i.bytes)) = some (some (.int .i64 0), 1, 8) := by kernel_rfl
theorem one_z13 (l : List Int) : ∀ u ∈ l.map (Value.int .i64), u.oneCell' = true := by
  intro u hu
  obtain ⟨c, _, rfl⟩ := List.mem_map.1 hu
  rfl
theorem lies_one13 (w : World) (u : Value) (t : TypeId) : ∀ j y, ([u] : List Value)[j]? = some y → (w.alloc (.cells #[u] t)).cell? ((⟨w.heap.size, 0, none⟩ : Addr).add j) = some y := fun j y hj => by
  rw [add_plain, (Has.made w t #[u]).cell, Nat.zero_add]
  simpa using hj
theorem wpList_append_zs {P : Program} {w : World} {ops : Array Oper} {rest : List Oper} {o : Oper} {a : Act} {Q : Exit → Act → World → Prop} (hgd : o.guard = none) (s x : Operand) (t : TypeId)
    (ho : o.op = .call { callee := .builtin .append, args := #[s, x], argTypes := #[t, t] }) (base : Nat) (e : TypeId) (i : TypeInfo) (ht : P.underlying t = some (.slice e)) (hi : P.info? e = some i) (hz : i.zero = some (.int .i64 0))
    (hsize : i.size = 1) (hby : i.bytes = 8) (v : Value) (n : Nat) (xs : List Value) (hs : a.eval s = v) (hown : w.ownsRow base e 1 v n xs) (A : Option Addr) (m c : Nat) (l : List Int) (hx : a.eval x = .slice A m c) (hm : m = l.length)
    (hA : A = none → c = 0) (hr : Reads w A (l.map (Value.int .i64))) (hmax : n + m ≤ 1000000) (hbase : base ≤ w.heap.size)
    (h : ∀ v' w', w'.ownsRow base e 1 v' (n + m) (xs ++ l.map (Value.int .i64)) → w.grownBy w' v.ownBlock → wpList P ops Q rest (a.put o.dst v') w') : wpList P ops Q (o :: rest) a w := by
  subst hm
  rcases A with _ | ad
  · have h0 : l = [] := by
      rcases l with _ | ⟨d, l⟩
      · rfl
      · obtain ⟨g, off, ha, _⟩ := hr (by simp)
        cases ha
    subst h0
    have hc := hA rfl
    subst hc
    exact wpList_append_own_none hgd s x t ho base e i 1 ht hi v n xs hs hown hx (h v w (by simpa using hown) (World.grownBy.refl w _))
  · refine wpList_append_own w hgd s x t ho base e i (.int .i64 0) 1 8 ht hi hz hsize hby rfl (by decide) v n xs hs hown ad l.length c (l.map (Value.int .i64)) hx (by simp) (fun j u hj => ?_) (one_z13 l) (by unfold maxLen; omega) (by omega) hbase (fun v' w' h1 h2 _ => h v' w' h1 h2)
    obtain ⟨g, off, hA', hc⟩ := hr (by
      have := (List.getElem?_eq_some_iff.1 hj).1
      omega)
    injection hA' with hA'
    subst hA'
    rw [add_plain]
    exact hc j u hj
theorem RowZ.own {w : World} {B n : Nat} {v : Value} {l : List Int} (h : w.ownsRow B 3 1 v n (l.map (Value.int .i64))) : ∃ A c, v = .slice A n c ∧ RowZ w A n c l := by
  have hl : n = l.length := by have := h.1; simpa using this.symm
  rcases h.2 with ⟨rfl, hn⟩ | ⟨g, cap, cur, rfl, _, hc, h1, h2, h3, h4⟩
  · subst hn
    obtain rfl : l = [] := List.length_eq_zero_iff.1 hl.symm
    exact ⟨none, 0, rfl, RowZ.none_ _⟩
  · exact ⟨_, cap, rfl, hl, (Row.of_own h).reads, fun e => (by cases e), h1, h2⟩
theorem Reads.dropZ {w : World} {A : Option Addr} {n c : Nat} {l : List Int} (h : Reads w A (l.map (Value.int .i64))) (hn : n = l.length) (hc : n ≤ c) {k : Nat} (hk : k ≤ n) : Reads w (if c = k then A else A.map (·.add k)) ((l.drop k).map (Value.int .i64)) := fun hx => by
  have hl : k < l.length := by
    rw [List.length_map, List.length_drop] at hx
    omega
  rw [if_neg (by omega)]
  obtain ⟨g, off, hA, hr⟩ := h (by rw [List.length_map]; omega)
  subst hA
  refine ⟨g, off + k, by simp [add_plain], fun j u hj => ?_⟩
  have := hr (k + j) u (by rw [← hj, List.map_drop, List.getElem?_drop])
  rw [← Nat.add_assoc] at this
  exact this
def insZ : List Int → Int → List Int
  | [], v => [v]
  | x :: t, v => if x ≤ v then x :: insZ t v else v :: x :: t
theorem insZ_at : ∀ (l : List Int) (k : Nat) (v : Int), k ≤ l.length → (∀ j, j < k → l.getD j 0 ≤ v) → (k < l.length → v < l.getD k 0) → insZ l v = l.take k ++ v :: l.drop k
  | [], k, v, h, _, _ => by simp [insZ]
  | x :: t, 0, v, _, _, h3 => by
    have := h3 (by simp)
    simp only [List.getD_cons_zero] at this
    unfold insZ
    rw [if_neg (by omega)]
    rfl
  | x :: t, k + 1, v, h, h2, h3 => by
    have hx := h2 0 (by omega)
    simp only [List.getD_cons_zero] at hx
    unfold insZ
    rw [if_pos hx, insZ_at t k v (by simpa using h) (fun j hj => by simpa using h2 (j + 1) (by omega)) (fun hk => by simpa using h3 (by simpa using hk))]
    rfl
theorem insZ_perm : ∀ (l : List Int) (v : Int), (insZ l v).Perm (v :: l)
  | [], v => List.Perm.refl _
  | x :: t, v => by
    unfold insZ
    split
    · exact ((insZ_perm t v).cons x).trans (List.Perm.swap v x t)
    · exact List.Perm.refl _
def srtTo (l : List Int) : Nat → List Int
  | 0 => []
  | k + 1 => insZ (srtTo l k) (l.getD k 0)
def srtZ (l : List Int) : List Int := srtTo l l.length
def risZ (l : List Int) : Prop := l.Pairwise (· ≤ ·)
theorem insZ_ris {l : List Int} (h : risZ l) (v : Int) : risZ (insZ l v) := by
  induction l with
  | nil => simp [insZ, risZ]
  | cons y t ih =>
    have h1 := List.pairwise_cons.1 h
    unfold insZ
    split
    · rename_i hy
      refine List.pairwise_cons.2 ⟨fun z hz => ?_, ih h1.2⟩
      rcases List.mem_cons.1 ((insZ_perm t v).mem_iff.1 hz) with rfl | hz
      · exact hy
      · exact h1.1 z hz
    · rename_i hy
      refine List.pairwise_cons.2 ⟨fun z hz => ?_, h⟩
      rcases List.mem_cons.1 hz with rfl | hz
      · omega
      · have := h1.1 z hz
        omega
theorem srtTo_ris (l : List Int) : ∀ k, risZ (srtTo l k)
  | 0 => List.Pairwise.nil
  | k + 1 => insZ_ris (srtTo_ris l k) _
theorem srtTo_perm (l : List Int) : ∀ k, k ≤ l.length → (srtTo l k).Perm (l.take k)
  | 0, _ => by simp [srtTo]
  | k + 1, h => by
    have hk : k < l.length := h
    have e : l.getD k 0 = l[k] := by rw [List.getD_eq_getElem?_getD, List.getElem?_eq_getElem hk]; rfl
    unfold srtTo
    rw [e, List.take_succ_eq_append_getElem hk]
    exact (insZ_perm _ _).trans (((srtTo_perm l k (by omega)).cons _).trans (List.perm_append_singleton _ _).symm)
theorem srtZ_ris (l : List Int) : risZ (srtZ l) := srtTo_ris l _
theorem srtZ_perm (l : List Int) : (srtZ l).Perm l := by
  have := srtTo_perm l l.length (Nat.le_refl _)
  rwa [List.take_length] at this
theorem risZ_ext {a b : List Int} (ha : risZ a) (hb : risZ b) (h : a.Perm b) : a = b := h.eq_of_pairwise (fun x y _ _ h1 h2 => Int.le_antisymm h1 h2) ha hb
theorem srtTo_len (l : List Int) : ∀ k, (srtTo l k).length = k
  | 0 => rfl
  | k + 1 => by
    unfold srtTo
    rw [(insZ_perm _ _).length_eq, List.length_cons, srtTo_len l k]
def RowZEnd (l : List Int) (w : World) (e : Ending) (w' : World) : Prop := ∃ A n c, e = .returned (.slice A n c) ∧ RowZ w' A n c l ∧ Below w.heap.size w w'
set_option maxRecDepth 100000 in
set_option maxHeartbeats 4000000 in
theorem r13Sorted_any (l : List Int) (A : Option Addr) (n c : Nat) (w : World) (h : RowZ w A n c l) (hn : n ≤ 100000) :
    Calls Try.prog 26 #[.slice A n c] w (RowZEnd (srtZ l) w) := by
  have hmx : Try.prog.follows .mixedOrders = true := by kernel_rfl
  have HA := Lib.hid h
  have HN := Lib.hid h.len
  obtain ⟨i0, hi, hz0, hz1, hz2⟩ := info_parts int_info13
  clear h
  go_enter Try.func26, Try.ntmps26
  go_wp2
  go_loopw [3, 4] (fun v i wr => ∃ k : Nat, k ≤ n ∧ i = .int .i64 (k : Int) ∧ wr.ownsRow w.heap.size 3 1 v k ((srtTo l k).map (Value.int .i64)) ∧ Below w.heap.size w wr) (fun _ i _ => n - (intOf i).toNat)
  case atStart => exact ⟨0, Nat.zero_le _, rfl, World.ownsRow_nil _ _ _ _, Below.refl _ _⟩
  case round =>
    obtain ⟨k, hk, rfl, ho, hB⟩ := hrel
    obtain ⟨A1, c1, rfl, hRO⟩ := RowZ.own ho
    by_cases hlt : k < n
    · have hkl : k < l.length := by have := HN.out; omega
      obtain ⟨q, hq⟩ : ∃ q, srtTo l k = q := ⟨_, rfl⟩
      have HQ : Hid (k = q.length) := Lib.hid (by rw [← hq, srtTo_len])
      rw [hq] at ho hRO
      have BW0 := Lib.hid hB
      have RO0 := Lib.hid hRO
      obtain ⟨g, off, rfl, ck0⟩ := (HA.out.below hB).reads.zint hkl
      have HC0 := Lib.hid (fun w1 (b1 : Below w.heap.size w w1) => (by obtain ⟨g', o', e', ck⟩ := (HA.out.below b1).reads.zint hkl; injection e' with e'; injection e' with e1 e2 _; subst e1 e2; exact ck : w1.cell? ⟨g, off + k, none⟩ = some (.int .i64 l[k])))
      have HS : Hid (srtTo l (k + 1) = insZ q l[k]) := Lib.hid (by show insZ (srtTo l k) (l.getD k 0) = _; rw [hq, List.getD_eq_getElem?_getD, List.getElem?_eq_getElem hkl]; rfl)
      obtain ⟨x, hx⟩ : ∃ x, l[k] = x := ⟨_, rfl⟩
      rw [hx] at HC0 HS
      have i0' : (0 : Int) ≤ (k : Int) := by omega
      have i1' : (k : Int) < (n : Int) := by omega
      have hcr := hRO.room
      have hcm := hRO.most
      have hcI : c1 ≤ 9223372036854775807 := by unfold maxLen at hcm; omega
      clear ho hRO hB hq ck0 hx hkl hcm
      obtain ⟨wo, hwo⟩ : ∃ wo : World, wo = wr := ⟨_, rfl⟩
      subst hwo
      go_wp2
      go_loopw [5] (fun i wr => ∃ j : Nat, j ≤ k ∧ i = .int .i64 (j : Int) ∧ (∀ i, i < j → q.getD i 0 ≤ x) ∧ Below w.heap.size w wr ∧ RowZ wr A1 k c1 q) (fun i _ => k - (intOf i).toNat)
      case atStart => exact ⟨0, Nat.zero_le _, rfl, fun i hi => absurd hi (Nat.not_lt_zero _), BW0.out, RO0.out⟩
      case round =>
        obtain ⟨j, hj, rfl, hle, hB, hRO⟩ := hrel
        have HLE := Lib.hid hle
        have BW := Lib.hid hB
        have RO := Lib.hid hRO
        clear hle hB hRO
        by_cases hjk : j < k
        · have hjl : j < q.length := by have := HQ.out; omega
          obtain ⟨go, oo, rfl, cj⟩ := RO.out.reads.zint hjl
          have HY : Hid (q.getD j 0 = q[j]) := Lib.hid (by rw [List.getD_eq_getElem?_getD, List.getElem?_eq_getElem hjl]; rfl)
          generalize q[j] = y at cj HY
          have ck := HC0.out wr BW.out
          have j0 : (0 : Int) ≤ (j : Int) := by omega
          have j1 : (j : Int) < (k : Int) := by omega
          have hSd : (fun w' : World => w'.cell? ⟨go, oo + j, none⟩ = some (.int .i64 y) ∧ w'.cell? ⟨g, off + k, none⟩ = some (.int .i64 x)) wr.drew := ⟨cj, ck⟩
          clear hjl
          by_cases hyx : y ≤ x
          · go_wp2
            first | (rename_i K hK; refine wp_held (fun w' : World => w'.cell? ⟨go, oo + j, none⟩ = some (.int .i64 y) ∧ w'.cell? ⟨g, off + k, none⟩ = some (.int .i64 x)) K hmx ?_ (fun _ _ h => h)) | (rename_i K hK hz; refine wp_held (fun w' : World => w'.cell? ⟨go, oo + j, none⟩ = some (.int .i64 y) ∧ w'.cell? ⟨g, off + k, none⟩ = some (.int .i64 x)) K hmx ?_ (fun _ _ h => h))
            refine wpAnyH_take (i := 0) (v := .int .i64 (j : Int)) (lit rfl) (by kernel_rfl) (by kernel_rfl) (by kernel_rfl) (fun _ _ _ h => h) (Or.inl ⟨by rfl, ?_⟩) hSd ?_
            · rintro w6 ⟨k1, k2⟩
              go_simp
            simp only [Act.put, List.setIfInBounds_toArray, List.set_cons_zero, List.set_cons_succ]
            refine wpAnyH_take (i := 1) (v := .slice (some ⟨go, oo, none⟩) k c1) (lit rfl) (by kernel_rfl) (by kernel_rfl) (by kernel_rfl) (fun _ _ _ h => h) (Or.inl ⟨by rfl, ?_⟩) hSd ?_
            · rintro w6 ⟨k1, k2⟩
              go_simp
            simp only [Act.put, List.setIfInBounds_toArray, List.set_cons_zero, List.set_cons_succ]
            refine wpAnyH_take (i := 2) (v := .int .i64 (k : Int)) (lit rfl) (by kernel_rfl) (by kernel_rfl) (by kernel_rfl) (fun _ _ _ h => h) (Or.inl ⟨by rfl, ?_⟩) hSd ?_
            · rintro w6 ⟨k1, k2⟩
              go_simp
            simp only [Act.put, List.setIfInBounds_toArray, List.set_cons_zero, List.set_cons_succ]
            refine wpAnyH_take (i := 3) (v := .bool true) (lit rfl) (by kernel_rfl) (by kernel_rfl) (by kernel_rfl) (fun _ _ _ h => h) (Or.inl ⟨by rfl, ?_⟩) hSd ?_
            · rintro w6 ⟨k1, k2⟩
              go_simp
            simp only [Act.put, List.setIfInBounds_toArray, List.set_cons_zero, List.set_cons_succ]
            refine wpAnyH_take (i := 4) (v := .bool true) (lit rfl) (by kernel_rfl) (by kernel_rfl) (by kernel_rfl) (fun _ _ _ h => h) (Or.inl ⟨by rfl, ?_⟩) hSd ?_
            · rintro w6 ⟨k1, k2⟩
              go_simp
            simp only [Act.put, List.setIfInBounds_toArray, List.set_cons_zero, List.set_cons_succ]
            refine wpAnyH_take (i := 5) (v := .slice (some ⟨go, oo, none⟩) k c1) (lit rfl) (by kernel_rfl) (by kernel_rfl) (by kernel_rfl) (fun _ _ _ h => h) (Or.inl ⟨by rfl, ?_⟩) hSd ?_
            · rintro w6 ⟨k1, k2⟩
              go_simp
            simp only [Act.put, List.setIfInBounds_toArray, List.set_cons_zero, List.set_cons_succ]
            refine wpAnyH_take (i := 6) (v := .int .i64 (j : Int)) (lit rfl) (by kernel_rfl) (by kernel_rfl) (by kernel_rfl) (fun _ _ _ h => h) (Or.inl ⟨by rfl, ?_⟩) hSd ?_
            · rintro w6 ⟨k1, k2⟩
              go_simp
            simp only [Act.put, List.setIfInBounds_toArray, List.set_cons_zero, List.set_cons_succ]
            refine wpAnyH_take (i := 7) (v := .pointer (some ⟨go, oo + j, none⟩)) (lit rfl) (by kernel_rfl) (by kernel_rfl) (by kernel_rfl) (fun _ _ _ h => h) (Or.inl ⟨by rfl, ?_⟩) hSd ?_
            · rintro w6 ⟨k1, k2⟩
              go_simp
            simp only [Act.put, List.setIfInBounds_toArray, List.set_cons_zero, List.set_cons_succ]
            refine wpAnyH_take (i := 8) (v := .int .i64 y) (lit rfl) (by kernel_rfl) (by kernel_rfl) (by kernel_rfl) (fun _ _ _ h => h) (Or.inl ⟨by rfl, ?_⟩) hSd ?_
            · rintro w6 ⟨k1, k2⟩
              go_simp
            simp only [Act.put, List.setIfInBounds_toArray, List.set_cons_zero, List.set_cons_succ]
            refine wpAnyH_take (i := 9) (v := .slice (some ⟨g, off, none⟩) n c) (lit rfl) (by kernel_rfl) (by kernel_rfl) (by kernel_rfl) (fun _ _ _ h => h) (Or.inl ⟨by rfl, ?_⟩) hSd ?_
            · rintro w6 ⟨k1, k2⟩
              go_simp
            simp only [Act.put, List.setIfInBounds_toArray, List.set_cons_zero, List.set_cons_succ]
            refine wpAnyH_take (i := 10) (v := .int .i64 (k : Int)) (lit rfl) (by kernel_rfl) (by kernel_rfl) (by kernel_rfl) (fun _ _ _ h => h) (Or.inl ⟨by rfl, ?_⟩) hSd ?_
            · rintro w6 ⟨k1, k2⟩
              go_simp
            simp only [Act.put, List.setIfInBounds_toArray, List.set_cons_zero, List.set_cons_succ]
            refine wpAnyH_take (i := 11) (v := .pointer (some ⟨g, off + k, none⟩)) (lit rfl) (by kernel_rfl) (by kernel_rfl) (by kernel_rfl) (fun _ _ _ h => h) (Or.inl ⟨by rfl, ?_⟩) hSd ?_
            · rintro w6 ⟨k1, k2⟩
              go_simp
            simp only [Act.put, List.setIfInBounds_toArray, List.set_cons_zero, List.set_cons_succ]
            refine wpAnyH_take (i := 12) (v := .int .i64 x) (lit rfl) (by kernel_rfl) (by kernel_rfl) (by kernel_rfl) (fun _ _ _ h => h) (Or.inl ⟨by rfl, ?_⟩) hSd ?_
            · rintro w6 ⟨k1, k2⟩
              go_simp
            simp only [Act.put, List.setIfInBounds_toArray, List.set_cons_zero, List.set_cons_succ]
            refine wpAnyH_take (i := 13) (v := .bool true) (lit rfl) (by kernel_rfl) (by kernel_rfl) (by kernel_rfl) (fun _ _ _ h => h) (Or.inl ⟨by rfl, ?_⟩) hSd ?_
            · rintro w6 ⟨k1, k2⟩
              go_simp
            simp only [Act.put, List.setIfInBounds_toArray, List.set_cons_zero, List.set_cons_succ]
            refine wpAnyH_take (i := 14) (v := .bool true) (lit rfl) (by kernel_rfl) (by kernel_rfl) (by kernel_rfl) (fun _ _ _ h => h) (Or.inl ⟨by rfl, ?_⟩) hSd ?_
            · rintro w6 ⟨k1, k2⟩
              go_simp
            simp only [Act.put, List.setIfInBounds_toArray, List.set_cons_zero, List.set_cons_succ]
            refine wpAnyH_done (by kernel_rfl) ?_ _
            refine hK _ _ ?_
            go_wp2
            go_roundw
            case rel => exact ⟨j + 1, by omega, by go_num, fun i hi => by
              by_cases e : i = j
              · subst e
                rw [HY.out]
                exact hyx
              · exact HLE.out i (by omega), BW.out.drew, RO.out.below (Below.refl _ _).drew⟩
            case measure => simp [intOf]; omega
          · have HP : Hid (insZ q x = q.take j ++ x :: q.drop j) := Lib.hid (insZ_at q j x (by rw [← HQ.out]; exact hj) HLE.out (fun _ => by rw [HY.out]; omega))
            go_wp2
            first | (rename_i K hK; refine wp_held (fun w' : World => w'.cell? ⟨go, oo + j, none⟩ = some (.int .i64 y) ∧ w'.cell? ⟨g, off + k, none⟩ = some (.int .i64 x)) K hmx ?_ (fun _ _ h => h)) | (rename_i K hK hz; refine wp_held (fun w' : World => w'.cell? ⟨go, oo + j, none⟩ = some (.int .i64 y) ∧ w'.cell? ⟨g, off + k, none⟩ = some (.int .i64 x)) K hmx ?_ (fun _ _ h => h))
            refine wpAnyH_take (i := 0) (v := .int .i64 (j : Int)) (lit rfl) (by kernel_rfl) (by kernel_rfl) (by kernel_rfl) (fun _ _ _ h => h) (Or.inl ⟨by rfl, ?_⟩) hSd ?_
            · rintro w6 ⟨k1, k2⟩
              go_simp
            simp only [Act.put, List.setIfInBounds_toArray, List.set_cons_zero, List.set_cons_succ]
            refine wpAnyH_take (i := 1) (v := .slice (some ⟨go, oo, none⟩) k c1) (lit rfl) (by kernel_rfl) (by kernel_rfl) (by kernel_rfl) (fun _ _ _ h => h) (Or.inl ⟨by rfl, ?_⟩) hSd ?_
            · rintro w6 ⟨k1, k2⟩
              go_simp
            simp only [Act.put, List.setIfInBounds_toArray, List.set_cons_zero, List.set_cons_succ]
            refine wpAnyH_take (i := 2) (v := .int .i64 (k : Int)) (lit rfl) (by kernel_rfl) (by kernel_rfl) (by kernel_rfl) (fun _ _ _ h => h) (Or.inl ⟨by rfl, ?_⟩) hSd ?_
            · rintro w6 ⟨k1, k2⟩
              go_simp
            simp only [Act.put, List.setIfInBounds_toArray, List.set_cons_zero, List.set_cons_succ]
            refine wpAnyH_take (i := 3) (v := .bool true) (lit rfl) (by kernel_rfl) (by kernel_rfl) (by kernel_rfl) (fun _ _ _ h => h) (Or.inl ⟨by rfl, ?_⟩) hSd ?_
            · rintro w6 ⟨k1, k2⟩
              go_simp
            simp only [Act.put, List.setIfInBounds_toArray, List.set_cons_zero, List.set_cons_succ]
            refine wpAnyH_take (i := 4) (v := .bool true) (lit rfl) (by kernel_rfl) (by kernel_rfl) (by kernel_rfl) (fun _ _ _ h => h) (Or.inl ⟨by rfl, ?_⟩) hSd ?_
            · rintro w6 ⟨k1, k2⟩
              go_simp
            simp only [Act.put, List.setIfInBounds_toArray, List.set_cons_zero, List.set_cons_succ]
            refine wpAnyH_take (i := 5) (v := .slice (some ⟨go, oo, none⟩) k c1) (lit rfl) (by kernel_rfl) (by kernel_rfl) (by kernel_rfl) (fun _ _ _ h => h) (Or.inl ⟨by rfl, ?_⟩) hSd ?_
            · rintro w6 ⟨k1, k2⟩
              go_simp
            simp only [Act.put, List.setIfInBounds_toArray, List.set_cons_zero, List.set_cons_succ]
            refine wpAnyH_take (i := 6) (v := .int .i64 (j : Int)) (lit rfl) (by kernel_rfl) (by kernel_rfl) (by kernel_rfl) (fun _ _ _ h => h) (Or.inl ⟨by rfl, ?_⟩) hSd ?_
            · rintro w6 ⟨k1, k2⟩
              go_simp
            simp only [Act.put, List.setIfInBounds_toArray, List.set_cons_zero, List.set_cons_succ]
            refine wpAnyH_take (i := 7) (v := .pointer (some ⟨go, oo + j, none⟩)) (lit rfl) (by kernel_rfl) (by kernel_rfl) (by kernel_rfl) (fun _ _ _ h => h) (Or.inl ⟨by rfl, ?_⟩) hSd ?_
            · rintro w6 ⟨k1, k2⟩
              go_simp
            simp only [Act.put, List.setIfInBounds_toArray, List.set_cons_zero, List.set_cons_succ]
            refine wpAnyH_take (i := 8) (v := .int .i64 y) (lit rfl) (by kernel_rfl) (by kernel_rfl) (by kernel_rfl) (fun _ _ _ h => h) (Or.inl ⟨by rfl, ?_⟩) hSd ?_
            · rintro w6 ⟨k1, k2⟩
              go_simp
            simp only [Act.put, List.setIfInBounds_toArray, List.set_cons_zero, List.set_cons_succ]
            refine wpAnyH_take (i := 9) (v := .slice (some ⟨g, off, none⟩) n c) (lit rfl) (by kernel_rfl) (by kernel_rfl) (by kernel_rfl) (fun _ _ _ h => h) (Or.inl ⟨by rfl, ?_⟩) hSd ?_
            · rintro w6 ⟨k1, k2⟩
              go_simp
            simp only [Act.put, List.setIfInBounds_toArray, List.set_cons_zero, List.set_cons_succ]
            refine wpAnyH_take (i := 10) (v := .int .i64 (k : Int)) (lit rfl) (by kernel_rfl) (by kernel_rfl) (by kernel_rfl) (fun _ _ _ h => h) (Or.inl ⟨by rfl, ?_⟩) hSd ?_
            · rintro w6 ⟨k1, k2⟩
              go_simp
            simp only [Act.put, List.setIfInBounds_toArray, List.set_cons_zero, List.set_cons_succ]
            refine wpAnyH_take (i := 11) (v := .pointer (some ⟨g, off + k, none⟩)) (lit rfl) (by kernel_rfl) (by kernel_rfl) (by kernel_rfl) (fun _ _ _ h => h) (Or.inl ⟨by rfl, ?_⟩) hSd ?_
            · rintro w6 ⟨k1, k2⟩
              go_simp
            simp only [Act.put, List.setIfInBounds_toArray, List.set_cons_zero, List.set_cons_succ]
            refine wpAnyH_take (i := 12) (v := .int .i64 x) (lit rfl) (by kernel_rfl) (by kernel_rfl) (by kernel_rfl) (fun _ _ _ h => h) (Or.inl ⟨by rfl, ?_⟩) hSd ?_
            · rintro w6 ⟨k1, k2⟩
              go_simp
            simp only [Act.put, List.setIfInBounds_toArray, List.set_cons_zero, List.set_cons_succ]
            refine wpAnyH_take (i := 13) (v := .bool false) (lit rfl) (by kernel_rfl) (by kernel_rfl) (by kernel_rfl) (fun _ _ _ h => h) (Or.inl ⟨by rfl, ?_⟩) hSd ?_
            · rintro w6 ⟨k1, k2⟩
              go_simp
            simp only [Act.put, List.setIfInBounds_toArray, List.set_cons_zero, List.set_cons_succ]
            refine wpAnyH_take (i := 14) (v := .bool false) (lit rfl) (by kernel_rfl) (by kernel_rfl) (by kernel_rfl) (fun _ _ _ h => h) (Or.inl ⟨by rfl, ?_⟩) hSd ?_
            · rintro w6 ⟨k1, k2⟩
              go_simp
            simp only [Act.put, List.setIfInBounds_toArray, List.set_cons_zero, List.set_cons_succ]
            refine wpAnyH_done (by kernel_rfl) ?_ _
            refine hK _ _ ?_
            clear ck cj hSd
            have hjc : j ≤ c1 := by omega
            have hjcI : (j : Int) ≤ (c1 : Int) := by omega
            have hj0I : (0 : Int) ≤ (j : Int) := by omega
            have hjk2 : (j : Int) ≤ (k : Int) := by omega
            have RD0 := Lib.hid (fun w1 (b1 : Below wr.heap.size wr w1) => (RO.out.below b1).reads.dropZ HQ.out hcr (k := j) (by omega))
            by_cases hck : c1 = j
            · exact absurd hck (by omega)
            · have RDK := Lib.hid (fun w1 (b1 : Below wr.heap.size wr w1) => (by have := RD0.out w1 b1; rwa [if_neg hck] at this : Reads w1 _ ((q.drop j).map (Value.int .i64))))
              clear RD0
              go_wp2_with (first
                | (at_builtin; (refine wpList_append_zs rfl _ _ 22 rfl wr.heap.size 3 i0 Try.underlying22 hi hz0 hz1 hz2 _ 0 [] rfl (World.ownsRow_nil _ _ _ _) _ j _ (q.take j) rfl (by have := HQ.out; rw [List.length_take]; omega) RO.out.nil (by rw [List.map_take]; exact RO.out.reads.take j) (by omega) (Nat.le_refl _) ?_; intro v3 w3 h7 h8; rw [Nat.zero_add, List.nil_append] at h7; have O3 := Lib.hid h7; have G3 : Hid (Below wr.heap.size wr w3) := Lib.hid (below_own (Below.refl _ wr).drew h8 (World.ownsRow_nil _ wr.heap.size 3 1) (Nat.le_refl _)); have d3 := HC0.out w3 (below_step BW.out G3.out); clear h7 h8))
                | (at_builtin; (refine wpList_append_own _ rfl _ _ 22 rfl wr.heap.size 3 i0 (.int .i64 0) 1 8 Try.underlying22 hi hz0 hz1 hz2 rfl (by decide) _ j _ rfl (O3.out.alloc _) ⟨w3.heap.size, 0, none⟩ 1 1 [.int .i64 x] rfl rfl (lies_one13 _ _ _) (by simp [Value.oneCell']) (by unfold maxLen; omega) (by omega) (Nat.le_trans G3.out.size (by simp)) ?_; intro v4 w4 h7 h8 hnil; clear hnil; have O4 := Lib.hid h7; have G4 : Hid (Below wr.heap.size wr w4) := Lib.hid (below_own (below_alloc' G3.out (.cells #[.int .i64 x] 3)) h8 (O3.out.alloc _) (Nat.le_trans G3.out.size (by simp))); clear h7 h8))
                | (at_builtin; (refine wpList_append_zs rfl _ _ 22 rfl wr.heap.size 3 i0 Try.underlying22 hi hz0 hz1 hz2 _ (j + 1) _ rfl O4.out _ _ _ (q.drop j) rfl (by have := HQ.out; rw [List.length_drop]; omega) (fun h => by first | rfl | (cases h; done) | (have h2 := RO.out.nil (by simpa using h); omega)) (by have h2 := RDK.out w4 G4.out; first | exact h2 | simpa [add_plain] using h2) (by omega) G4.out.size ?_; intro v5 w5 h7 h8; have O5 := Lib.hid (h7.mono BW.out.size); have B5 := Lib.hid (below_step BW.out (below_own G4.out h8 O4.out G4.out.size)); clear h7 h8)))
              go_roundw
              case rel => exact ⟨k + 1, by omega, by go_num, by
                have ho := O5.out
                have e : (q.take j).map (Value.int .i64) ++ [.int .i64 x] ++ (q.drop j).map (Value.int .i64) = (srtTo l (k + 1)).map (Value.int .i64) := by rw [HS.out, HP.out]; simp
                rw [e] at ho
                have hl : j + 1 + (k - j) = k + 1 := by omega
                rw [hl] at ho
                exact ho, B5.out⟩
              case measure => simp [intOf]; omega
        · obtain rfl : j = k := by omega
          have j1 : ¬ (j : Int) < (j : Int) := by omega
          have HP : Hid (insZ q x = q.take j ++ x :: q.drop j) := Lib.hid (insZ_at q j x (by rw [← HQ.out]; exact Nat.le_refl _) HLE.out (fun hq => absurd hq (by rw [← HQ.out]; omega)))
          go_wp2
          first | (rename_i K hK; refine wp_held (fun _ : World => True) K hmx ?_ (fun _ _ h => h)) | (rename_i K hK hz; refine wp_held (fun _ : World => True) K hmx ?_ (fun _ _ h => h))
          refine wpAnyH_take (i := 0) (v := .int .i64 (j : Int)) (lit rfl) (by kernel_rfl) (by kernel_rfl) (by kernel_rfl) (fun _ _ _ h => h) (Or.inl ⟨by rfl, ?_⟩) trivial ?_
          · rintro w6 k1
            go_simp
          simp only [Act.put, List.setIfInBounds_toArray, List.set_cons_zero, List.set_cons_succ]
          refine wpAnyH_take (i := 1) (v := .slice A1 j c1) (lit rfl) (by kernel_rfl) (by kernel_rfl) (by kernel_rfl) (fun _ _ _ h => h) (Or.inl ⟨by rfl, ?_⟩) trivial ?_
          · rintro w6 k1
            go_simp
          simp only [Act.put, List.setIfInBounds_toArray, List.set_cons_zero, List.set_cons_succ]
          refine wpAnyH_take (i := 2) (v := .int .i64 (j : Int)) (lit rfl) (by kernel_rfl) (by kernel_rfl) (by kernel_rfl) (fun _ _ _ h => h) (Or.inl ⟨by rfl, ?_⟩) trivial ?_
          · rintro w6 k1
            go_simp
          simp only [Act.put, List.setIfInBounds_toArray, List.set_cons_zero, List.set_cons_succ]
          refine wpAnyH_take (i := 3) (v := .bool false) (lit rfl) (by kernel_rfl) (by kernel_rfl) (by kernel_rfl) (fun _ _ _ h => h) (Or.inl ⟨by rfl, ?_⟩) trivial ?_
          · rintro w6 k1
            go_simp
          simp only [Act.put, List.setIfInBounds_toArray, List.set_cons_zero, List.set_cons_succ]
          refine wpAnyH_take (i := 4) (v := .bool false) (lit rfl) (by kernel_rfl) (by kernel_rfl) (by kernel_rfl) (fun _ _ _ h => h) (Or.inl ⟨by rfl, ?_⟩) trivial ?_
          · rintro w6 k1
            go_simp
          simp only [Act.put, List.setIfInBounds_toArray, List.set_cons_zero, List.set_cons_succ]
          refine wpAnyH_take (i := 5) (v := undef) (lit rfl) (by kernel_rfl) (by kernel_rfl) (by kernel_rfl) (fun _ _ _ h => h) (Or.inr ⟨by rfl, rfl⟩) trivial ?_
          simp only [Act.put, List.setIfInBounds_toArray, List.set_cons_zero, List.set_cons_succ]
          refine wpAnyH_take (i := 6) (v := undef) (lit rfl) (by kernel_rfl) (by kernel_rfl) (by kernel_rfl) (fun _ _ _ h => h) (Or.inr ⟨by rfl, rfl⟩) trivial ?_
          simp only [Act.put, List.setIfInBounds_toArray, List.set_cons_zero, List.set_cons_succ]
          refine wpAnyH_take (i := 7) (v := undef) (lit rfl) (by kernel_rfl) (by kernel_rfl) (by kernel_rfl) (fun _ _ _ h => h) (Or.inr ⟨by rfl, rfl⟩) trivial ?_
          simp only [Act.put, List.setIfInBounds_toArray, List.set_cons_zero, List.set_cons_succ]
          refine wpAnyH_take (i := 8) (v := undef) (lit rfl) (by kernel_rfl) (by kernel_rfl) (by kernel_rfl) (fun _ _ _ h => h) (Or.inr ⟨by rfl, rfl⟩) trivial ?_
          simp only [Act.put, List.setIfInBounds_toArray, List.set_cons_zero, List.set_cons_succ]
          refine wpAnyH_take (i := 9) (v := undef) (lit rfl) (by kernel_rfl) (by kernel_rfl) (by kernel_rfl) (fun _ _ _ h => h) (Or.inr ⟨by rfl, rfl⟩) trivial ?_
          simp only [Act.put, List.setIfInBounds_toArray, List.set_cons_zero, List.set_cons_succ]
          refine wpAnyH_take (i := 10) (v := undef) (lit rfl) (by kernel_rfl) (by kernel_rfl) (by kernel_rfl) (fun _ _ _ h => h) (Or.inr ⟨by rfl, rfl⟩) trivial ?_
          simp only [Act.put, List.setIfInBounds_toArray, List.set_cons_zero, List.set_cons_succ]
          refine wpAnyH_take (i := 11) (v := undef) (lit rfl) (by kernel_rfl) (by kernel_rfl) (by kernel_rfl) (fun _ _ _ h => h) (Or.inr ⟨by rfl, rfl⟩) trivial ?_
          simp only [Act.put, List.setIfInBounds_toArray, List.set_cons_zero, List.set_cons_succ]
          refine wpAnyH_take (i := 12) (v := undef) (lit rfl) (by kernel_rfl) (by kernel_rfl) (by kernel_rfl) (fun _ _ _ h => h) (Or.inr ⟨by rfl, rfl⟩) trivial ?_
          simp only [Act.put, List.setIfInBounds_toArray, List.set_cons_zero, List.set_cons_succ]
          refine wpAnyH_take (i := 13) (v := undef) (lit rfl) (by kernel_rfl) (by kernel_rfl) (by kernel_rfl) (fun _ _ _ h => h) (Or.inr ⟨by rfl, rfl⟩) trivial ?_
          simp only [Act.put, List.setIfInBounds_toArray, List.set_cons_zero, List.set_cons_succ]
          refine wpAnyH_take (i := 14) (v := .bool false) (lit rfl) (by kernel_rfl) (by kernel_rfl) (by kernel_rfl) (fun _ _ _ h => h) (Or.inl ⟨by rfl, ?_⟩) trivial ?_
          · rintro w6 k1
            go_simp
          simp only [Act.put, List.setIfInBounds_toArray, List.set_cons_zero, List.set_cons_succ]
          refine wpAnyH_done (by kernel_rfl) ?_ _
          refine hK _ _ ?_
          have hjc : j ≤ c1 := by omega
          have hjcI : (j : Int) ≤ (c1 : Int) := by omega
          have hj0I : (0 : Int) ≤ (j : Int) := by omega
          have hjk2 : (j : Int) ≤ (j : Int) := by omega
          have RD0 := Lib.hid (fun w1 (b1 : Below wr.heap.size wr w1) => (RO.out.below b1).reads.dropZ HQ.out hcr (k := j) (by omega))
          by_cases hck : c1 = j
          · have RDK := Lib.hid (fun w1 (b1 : Below wr.heap.size wr w1) => (by have := RD0.out w1 b1; rwa [if_pos hck] at this : Reads w1 _ ((q.drop j).map (Value.int .i64))))
            clear RD0
            have hck2 := hck.symm
            subst hck2
            go_wp2_with (first
              | (at_builtin; (refine wpList_append_zs rfl _ _ 22 rfl wr.heap.size 3 i0 Try.underlying22 hi hz0 hz1 hz2 _ 0 [] rfl (World.ownsRow_nil _ _ _ _) _ j _ (q.take j) rfl (by have := HQ.out; rw [List.length_take]; omega) RO.out.nil (by rw [List.map_take]; exact RO.out.reads.take j) (by omega) (Nat.le_refl _) ?_; intro v3 w3 h7 h8; rw [Nat.zero_add, List.nil_append] at h7; have O3 := Lib.hid h7; have G3 : Hid (Below wr.heap.size wr w3) := Lib.hid (below_own (Below.refl _ wr).drew h8 (World.ownsRow_nil _ wr.heap.size 3 1) (Nat.le_refl _)); have d3 := HC0.out w3 (below_step BW.out G3.out); clear h7 h8))
              | (at_builtin; (refine wpList_append_own _ rfl _ _ 22 rfl wr.heap.size 3 i0 (.int .i64 0) 1 8 Try.underlying22 hi hz0 hz1 hz2 rfl (by decide) _ j _ rfl (O3.out.alloc _) ⟨w3.heap.size, 0, none⟩ 1 1 [.int .i64 x] rfl rfl (lies_one13 _ _ _) (by simp [Value.oneCell']) (by unfold maxLen; omega) (by omega) (Nat.le_trans G3.out.size (by simp)) ?_; intro v4 w4 h7 h8 hnil; clear hnil; have O4 := Lib.hid h7; have G4 : Hid (Below wr.heap.size wr w4) := Lib.hid (below_own (below_alloc' G3.out (.cells #[.int .i64 x] 3)) h8 (O3.out.alloc _) (Nat.le_trans G3.out.size (by simp))); clear h7 h8))
              | (at_builtin; (refine wpList_append_zs rfl _ _ 22 rfl wr.heap.size 3 i0 Try.underlying22 hi hz0 hz1 hz2 _ (j + 1) _ rfl O4.out _ _ _ (q.drop j) rfl (by have := HQ.out; rw [List.length_drop]; omega) (fun h => by first | rfl | (cases h; done) | (have h2 := RO.out.nil (by simpa using h); omega)) (by have h2 := RDK.out w4 G4.out; first | exact h2 | simpa [add_plain] using h2) (by omega) G4.out.size ?_; intro v5 w5 h7 h8; have O5 := Lib.hid (h7.mono BW.out.size); have B5 := Lib.hid (below_step BW.out (below_own G4.out h8 O4.out G4.out.size)); clear h7 h8)))
            go_roundw
            case rel => exact ⟨j + 1, by omega, by go_num, by
              have ho := O5.out
              have e : (q.take j).map (Value.int .i64) ++ [.int .i64 x] ++ (q.drop j).map (Value.int .i64) = (srtTo l (j + 1)).map (Value.int .i64) := by rw [HS.out, HP.out]; simp
              rw [e] at ho
              have hl : j + 1 + 0 = j + 1 := by omega
              rw [hl] at ho
              exact ho, B5.out⟩
            case measure => simp [intOf]; omega
          · have RDK := Lib.hid (fun w1 (b1 : Below wr.heap.size wr w1) => (by have := RD0.out w1 b1; rwa [if_neg hck] at this : Reads w1 _ ((q.drop j).map (Value.int .i64))))
            clear RD0
            go_wp2_with (first
              | (at_builtin; (refine wpList_append_zs rfl _ _ 22 rfl wr.heap.size 3 i0 Try.underlying22 hi hz0 hz1 hz2 _ 0 [] rfl (World.ownsRow_nil _ _ _ _) _ j _ (q.take j) rfl (by have := HQ.out; rw [List.length_take]; omega) RO.out.nil (by rw [List.map_take]; exact RO.out.reads.take j) (by omega) (Nat.le_refl _) ?_; intro v3 w3 h7 h8; rw [Nat.zero_add, List.nil_append] at h7; have O3 := Lib.hid h7; have G3 : Hid (Below wr.heap.size wr w3) := Lib.hid (below_own (Below.refl _ wr).drew h8 (World.ownsRow_nil _ wr.heap.size 3 1) (Nat.le_refl _)); have d3 := HC0.out w3 (below_step BW.out G3.out); clear h7 h8))
              | (at_builtin; (refine wpList_append_own _ rfl _ _ 22 rfl wr.heap.size 3 i0 (.int .i64 0) 1 8 Try.underlying22 hi hz0 hz1 hz2 rfl (by decide) _ j _ rfl (O3.out.alloc _) ⟨w3.heap.size, 0, none⟩ 1 1 [.int .i64 x] rfl rfl (lies_one13 _ _ _) (by simp [Value.oneCell']) (by unfold maxLen; omega) (by omega) (Nat.le_trans G3.out.size (by simp)) ?_; intro v4 w4 h7 h8 hnil; clear hnil; have O4 := Lib.hid h7; have G4 : Hid (Below wr.heap.size wr w4) := Lib.hid (below_own (below_alloc' G3.out (.cells #[.int .i64 x] 3)) h8 (O3.out.alloc _) (Nat.le_trans G3.out.size (by simp))); clear h7 h8))
              | (at_builtin; (refine wpList_append_zs rfl _ _ 22 rfl wr.heap.size 3 i0 Try.underlying22 hi hz0 hz1 hz2 _ (j + 1) _ rfl O4.out _ _ _ (q.drop j) rfl (by have := HQ.out; rw [List.length_drop]; omega) (fun h => by first | rfl | (cases h; done) | (have h2 := RO.out.nil (by simpa using h); omega)) (by have h2 := RDK.out w4 G4.out; first | exact h2 | simpa [add_plain] using h2) (by omega) G4.out.size ?_; intro v5 w5 h7 h8; have O5 := Lib.hid (h7.mono BW.out.size); have B5 := Lib.hid (below_step BW.out (below_own G4.out h8 O4.out G4.out.size)); clear h7 h8)))
            go_roundw
            case rel => exact ⟨j + 1, by omega, by go_num, by
              have ho := O5.out
              have e : (q.take j).map (Value.int .i64) ++ [.int .i64 x] ++ (q.drop j).map (Value.int .i64) = (srtTo l (j + 1)).map (Value.int .i64) := by rw [HS.out, HP.out]; simp
              rw [e] at ho
              have hl : j + 1 + 0 = j + 1 := by omega
              rw [hl] at ho
              exact ho, B5.out⟩
            case measure => simp [intOf]; omega
    · obtain rfl : k = n := by omega
      have hltI : ¬ (k : Int) < (k : Int) := by omega
      have HSR : Hid (srtTo l k = srtZ l) := Lib.hid (by rw [HN.out]; rfl)
      have HR := Lib.hid hRO
      have HB := Lib.hid hB
      obtain ⟨w3, hw3⟩ : ∃ w3 : World, w3 = wr := ⟨_, rfl⟩
      subst hw3
      clear hRO ho hB
      go_wp2
      go_ret
      exact ⟨A1, _, c1, rfl, by rw [← HSR.out]; exact HR.out, HB.out⟩
end Go.Proofs.Ytoelojlabmconaa
