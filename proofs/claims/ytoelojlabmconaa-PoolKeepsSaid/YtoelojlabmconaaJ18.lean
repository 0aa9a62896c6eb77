import Derived.Test.YtoelojlabmconaaJPph
/- Of a claim's texts, joined: Ppi Ppj Ppk. No statement but in the last. -/
section
namespace Go.Proofs.Ytoelojlabmconaa
open Go.RowKit
set_option linter.unusedVariables false

section
variable {w w' : World} {gR gH gO o : Nat} {held : Bool} {B : Option Addr} {m c : Nat} {l : List (Nat × List Int)} {ss : List Sl13}
set_option maxRecDepth 100000 in
set_option maxHeartbeats 4000000 in
theorem stabC13_any (h : St13 w gR gH gO o held B m l ss) (hmono : MonoW o held l m) (hm : m ≤ 1000) :
    Calls Try.prog 38 #[.slice B m c, .int .i64 (m : Int), .func (.func 31) #[] #[.pointer (some ⟨gR, 0, none⟩)]] w (NilEnd w) := by
  have H0 := Lib.hid h
  have HIN : Hid (∀ w1, Below w.heap.size w w1 → ∀ a e : Nat, a ≤ e → e ≤ m → Calls Try.prog 42 #[.slice B m c, .int .i64 (a : Int), .int .i64 (e : Int), .func (.func 31) #[] #[.pointer (some ⟨gR, 0, none⟩)]] w1 (NilEnd w1)) := Lib.hid (fun w1 b1 a e h1 h2 => insC13_any a e (H0.out.below b1) hmono hm h1 h2)
  have HSY : Hid (∀ w1, Below w.heap.size w w1 → ∀ a mm e : Nat, a < mm → mm < e → e ≤ m → Calls Try.prog 43 #[.slice B m c, .int .i64 (a : Int), .int .i64 (mm : Int), .int .i64 (e : Int), .func (.func 31) #[] #[.pointer (some ⟨gR, 0, none⟩)]] w1 (NilEnd w1)) := Lib.hid (fun w1 b1 a mm e h1 h2 h3 => symC13_aux hmono hm (e - a) a mm e (Nat.le_refl _) h1 h2 h3 w1 (H0.out.below b1))
  clear h hmono
  unfold NilEnd at HIN HSY ⊢
  go_enter Try.func38, Try.ntmps38
  go_wp2
  go_loopw [7, 8] (fun va vb wr => ∃ a b : Nat, va = .int .i64 (a : Int) ∧ vb = .int .i64 (b : Int) ∧ b = a + 20 ∧ a ≤ m ∧ Below w.heap.size w wr) (fun va _ _ => m - (intOf va).toNat)
  case atStart => exact ⟨0, 20, rfl, rfl, rfl, Nat.zero_le _, Below.refl _ _⟩
  case round =>
    obtain ⟨a, b, rfl, rfl, hba, ham, hb⟩ := hrel
    have HB := Lib.hid hb
    have HBA := Lib.hid hba
    clear hb
    by_cases hlt : b ≤ m
    · have l1 : (b : Int) ≤ (m : Int) := by omega
      have HC := Lib.hid (HIN.out wr HB.out a b (by omega) hlt)
      clear hba
      go_wp2_with (go_at_call 42; (with_reducible refine HC.out.mono ?_); rintro e9 w9 ⟨rfl, b9⟩; have B9 := Lib.hid (below_step HB.out b9); clear b9)
      go_roundw
      case rel => exact ⟨b, b + 20, rfl, by go_num, rfl, hlt, B9.out⟩
      case measure => simp [intOf]; have := HBA.out; omega
    · have l1 : ¬ (b : Int) ≤ (m : Int) := by omega
      have HC := Lib.hid (HIN.out wr HB.out a m ham (Nat.le_refl _))
      clear hba
      go_wp2_with (go_at_call 42; (with_reducible refine HC.out.mono ?_); rintro e9 w9 ⟨rfl, b9⟩; have B9 := Lib.hid (below_step HB.out b9); clear b9)
      go_loopw [6] (fun vs wr => ∃ s : Nat, vs = .int .i64 (s : Int) ∧ 20 ≤ s ∧ s ≤ 2000 ∧ Below w.heap.size w wr) (fun vs _ => m - (intOf vs).toNat)
      case atStart => exact ⟨20, rfl, Nat.le_refl _, by omega, B9.out⟩
      case round =>
        obtain ⟨s, rfl, hs1, hs2, hb⟩ := hrel
        have HB := Lib.hid hb
        clear hb
        by_cases hsm : s < m
        · have l2 : (s : Int) < (m : Int) := by omega
          have l3 : (2 : Int) * (s : Int) ≤ 2000 := by omega
          obtain ⟨wo, hwo⟩ : ∃ wo : World, wo = wr := ⟨_, rfl⟩
          subst hwo
          go_wp2
          go_loopw [7, 8] (fun va vb wr => ∃ a : Nat, va = .int .i64 (a : Int) ∧ vb = .int .i64 ((a : Int) + 2 * (s : Int)) ∧ a ≤ m ∧ Below w.heap.size w wr) (fun va _ _ => m - (intOf va).toNat)
          case atStart => exact ⟨0, rfl, by simp, Nat.zero_le _, HB.out⟩
          case round =>
            obtain ⟨a2, rfl, rfl, ham2, hb⟩ := hrel
            have HB2 := Lib.hid hb
            clear hb
            obtain ⟨e2, he2⟩ : ∃ e : Nat, e = a2 + 2 * s := ⟨_, rfl⟩
            obtain ⟨m2, hm2⟩ : ∃ e : Nat, e = a2 + s := ⟨_, rfl⟩
            have he2I : (a2 : Int) + 2 * (s : Int) = (e2 : Int) := by omega
            have hm2I : (a2 : Int) + (s : Int) = (m2 : Int) := by omega
            have hem : m2 + s = e2 := by omega
            have ham3 : a2 + s = m2 := by omega
            have HEM := Lib.hid hem
            have HAM := Lib.hid ham3
            have hw1 : IntKind.i64.wrap (m2 : Int) = (m2 : Int) := wrapN13 (by omega)
            have hw2 : IntKind.i64.wrap (e2 : Int) = (e2 : Int) := wrapN13 (by omega)
            by_cases hle : e2 ≤ m
            · have l4 : (e2 : Int) ≤ (m : Int) := by omega
              have HC := Lib.hid (HSY.out wr HB2.out a2 m2 e2 (by omega) (by omega) hle)
              rw [he2I]
              clear he2 hm2 hem ham3 he2I
              go_wp2_with (go_at_call 43; (with_reducible refine HC.out.mono ?_); rintro e9 w9 ⟨rfl, b9⟩; have B9 := Lib.hid (below_step HB2.out b9); clear b9)
              go_roundw
              case rel => exact ⟨e2, rfl, by go_num, hle, B9.out⟩
              case measure => simp [intOf]; have := HEM.out; have := HAM.out; omega
            · have l4 : ¬ (e2 : Int) ≤ (m : Int) := by omega
              rw [he2I]
              clear he2 hm2 hem ham3 he2I
              by_cases hmm : m2 < m
              · have l5 : (m2 : Int) < (m : Int) := by omega
                have HC := Lib.hid (HSY.out wr HB2.out a2 m2 m (by have := HAM.out; omega) hmm (Nat.le_refl _))
                go_wp2_with (go_at_call 43; (with_reducible refine HC.out.mono ?_); rintro e9 w9 ⟨rfl, b9⟩; have B9 := Lib.hid (below_step HB2.out b9); clear b9)
                go_roundw
                case rel => exact ⟨s * 2, by go_num, by omega, by omega, B9.out⟩
                case measure => simp [intOf]; omega
              · have l5 : ¬ (m2 : Int) < (m : Int) := by omega
                go_wp2
                go_roundw
                case rel => exact ⟨s * 2, by go_num, by omega, by omega, HB2.out⟩
                case measure => simp [intOf]; omega
        · have l2 : ¬ (s : Int) < (m : Int) := by omega
          go_wp2
          go_end0
          exact ⟨rfl, HB.out⟩
set_option maxRecDepth 100000 in
theorem stabF13_any (h : St13 w gR gH gO o held B m l ss) (hmono : MonoW o held l m) (hm : m ≤ 1000) :
    Calls Try.prog 30 #[.slice B m c, .func (.func 31) #[] #[.pointer (some ⟨gR, 0, none⟩)]] w (NilEnd w) := by
  have HC := Lib.hid (stabC13_any (c := c) h hmono hm)
  clear h hmono
  unfold NilEnd at HC ⊢
  go_enter Try.func30, Try.ntmps30
  go_wp2_with (go_at_call 38; (with_reducible refine HC.out.mono ?_); rintro e9 w9 ⟨rfl, b9⟩; have B9 := Lib.hid b9; clear b9)
  go_end0
  exact ⟨rfl, B9.out⟩
end
end Go.Proofs.Ytoelojlabmconaa
end

section
namespace Go.Proofs.Ytoelojlabmconaa
open Go.RowKit
set_option linter.unusedVariables false

theorem eqnilW_yes (n c : Nat) (w : World) : (binOp .eql 23 (.slice none n c) (.slice none 0 0)).run Try.prog w = .ok (.bool true) w := Lib.run_eql_slice_nil w 23 56 none n c 0 0 Try.underlying23
theorem eqnilW_no (a : Addr) (n c : Nat) (w : World) : (binOp .eql 23 (.slice (some a) n c) (.slice none 0 0)).run Try.prog w = .ok (.bool false) w := Lib.run_eql_slice_nil w 23 56 (some a) n c 0 0 Try.underlying23
theorem own_newW13 (w : World) : (w.alloc (.cells #[] 56)).ownsRow w.heap.size 56 2 (.slice (some ⟨w.heap.size, 0, none⟩) 0 0) 0 ([] : List Value) := World.ownsRow_made w #[] 0 (Nat.le_refl _) (by decide) rfl
set_option maxRecDepth 100000 in
/-- slices.Clone of rows that wait. -/
theorem cloneW13_any (A : Option Addr) (n c : Nat) (xs : List Value) (w : World) (hn : n ≤ 100000) (hl : xs.length = n * 2) (h1 : ∀ u ∈ xs, u.oneCell' = true) (h0 : A = none → n = 0 ∧ c = 0) (hr : ∀ ad, A = some ad → ∀ j u, xs[j]? = some u → w.cell? (ad.add j) = some u) :
    Calls Try.prog 34 #[.slice A n c] w fun e w' => ∃ A' c', e = .returned (.slice A' n c') ∧ w'.ownsRow w.heap.size 56 2 (.slice A' n c') n xs ∧ Below w.heap.size w w' := by
  rcases A with _ | a
  · obtain ⟨rfl, rfl⟩ := h0 rfl
    obtain rfl : xs = [] := List.length_eq_zero_iff.1 (by omega)
    have hq := eqnilW_yes 0 0
    clear hr h1
    go_enter Try.func34, Try.ntmps34
    go_wp2
    go_ret
    exact ⟨none, 0, rfl, World.ownsRow_nil _ _ _ _, Below.refl _ _⟩
  · have HC : Hid (∀ j u, xs[j]? = some u → (w.alloc (.cells #[] 56)).cell? (a.add j) = some u) := Lib.hid (fun j u hj => by
      have h2 := hr a rfl j u hj
      exact (World.cell?_alloc_lt w _ _ (World.block_lt_of_cell? w _ h2)).trans h2)
    have HL := Lib.hid hl
    have H1 := Lib.hid h1
    obtain ⟨i0, hi, hz0, hz1, hz2⟩ := info_parts wait_info13
    have hq := eqnilW_no a n c
    clear hr h1 hl h0
    go_enter Try.func34, Try.ntmps34
    go_wp2_with (at_builtin; (refine wpList_append_own _ rfl _ _ 23 rfl w.heap.size 56 i0 _ 2 32 Try.underlying23 hi hz0 hz1 hz2 rfl (by decide) _ 0 _ rfl (own_newW13 w) a n c xs rfl HL.out HC.out H1.out (by unfold maxLen; omega) (by omega) (by simp) ?_; intro v' w1 hown hgrow hnil; have HO := Lib.hid hown; have HG := Lib.hid (below_own ((Below.refl w.heap.size w).alloc (Nat.le_refl _) (.cells #[] 56)) hgrow (own_newW13 w) (by simp)); clear hown hgrow hnil))
    go_ret
    have ho := HO.out
    rw [Nat.zero_add, List.nil_append] at ho
    obtain ⟨A2, c2, rfl, _, _⟩ := own_by13 ho
    exact ⟨A2, c2, rfl, ho, HG.out⟩
theorem filter_split {l : List (Nat × List Int)} {f : Nat × List Int → Bool} {k : Nat} (h1 : ∀ i, i < k → i < l.length → f (l.getD i w00) = true) (h2 : ∀ i, k ≤ i → i < l.length → f (l.getD i w00) = false) : l.filter f = l.take k ∧ l.filter (fun x => !f x) = l.drop k := by
  have ha : ∀ x ∈ l.take k, f x = true := fun x hx => by
    obtain ⟨i, hi, rfl⟩ := List.mem_iff_getElem.1 hx
    rw [List.length_take] at hi
    have := h1 i (by omega) (by omega)
    rw [getW_get (by omega)] at this
    rw [List.getElem_take]
    exact this
  have hb : ∀ x ∈ l.drop k, f x = false := fun x hx => by
    obtain ⟨i, hi, rfl⟩ := List.mem_iff_getElem.1 hx
    rw [List.length_drop] at hi
    have := h2 (k + i) (by omega) (by omega)
    rw [getW_get (by omega)] at this
    rw [List.getElem_drop]
    exact this
  constructor
  · conv => lhs; rw [← List.take_append_drop k l]
    rw [List.filter_append, List.filter_eq_self.2 ha, List.filter_eq_nil_iff.2 (fun x hx => by rw [hb x hx]; decide), List.append_nil]
  · conv => lhs; rw [← List.take_append_drop k l]
    rw [List.filter_append, List.filter_eq_nil_iff.2 (fun x hx => by rw [ha x hx]; decide), List.filter_eq_self.2 (fun x hx => by rw [hb x hx]; rfl), List.nil_append]
theorem gone_rank (o : Nat) (held : Bool) (x : Nat × List Int) : goneB o held x = !(rankN o held x.1 == 1) := by
  unfold goneB rankN
  cases held
  · simp
  · by_cases h : x.1 ≤ o
    · rw [if_neg (by omega)]
      simp [h]
    · rw [if_pos ⟨rfl, by omega⟩]
      simp [h]
theorem mono_txn {l : List (Nat × List Int)} (h : l.Pairwise (fun a b => a.1 < b.1)) (o : Nat) (held : Bool) {m : Nat} (hm : m = l.length) : MonoW o held l m := by
  intro i j hij hj
  unfold rankW
  rw [getW_get (by omega), getW_get (by omega)]
  rcases Nat.eq_or_lt_of_le hij with e | e
  · subst e
    exact Int.le_refl _
  · exact rankN_mono (Nat.le_of_lt (List.pairwise_iff_getElem.1 h i j (by omega) (by omega) e))
theorem WaitsA.cut {w : World} {B : Option Addr} {m d : Nat} {l : List (Nat × List Int)} (h : WaitsA w B m d l) {k : Nat} (hk : k ≤ m) : WaitsA w B k d (l.take k) := by
  refine ⟨by rw [List.length_take, ← h.len]; omega, fun h0 => ?_, Nat.le_trans hk h.room, h.most, fun x hx => h.big x (List.mem_of_mem_take hx)⟩
  obtain ⟨b, off, e, hb, hc⟩ := h.reads (by omega)
  exact ⟨b, off, e, hb, fun i x hx => hc i x (by rw [List.getElem?_take] at hx; split at hx; exact hx; cases hx)⟩
theorem cellsW_drop (l : List (Nat × List Int)) (ss : List Sl13) (k : Nat) : ∀ j, cellsW l ss (k + j) = cellsW l ss k ++ cellsW (l.drop k) (ss.drop k) j
  | 0 => by simp [cellsW]
  | j + 1 => by
    show cellsW l ss (k + j) ++ _ = _ ++ (cellsW (l.drop k) (ss.drop k) j ++ _)
    rw [cellsW_drop l ss k j, List.append_assoc]
    congr 2
    rw [List.getD_eq_getElem?_getD, List.getD_eq_getElem?_getD, List.getD_eq_getElem?_getD, List.getD_eq_getElem?_getD, List.getElem?_drop, List.getElem?_drop]
    rfl
theorem cellsW_one (l : List (Nat × List Int)) (ss : List Sl13) : ∀ k, ∀ u ∈ cellsW l ss k, u.oneCell' = true
  | 0, u, h => by cases h
  | k + 1, u, h => by
    unfold cellsW at h
    rcases List.mem_append.1 h with h | h
    · exact cellsW_one l ss k u h
    · rcases List.mem_cons.1 h with rfl | h
      · rfl
      · obtain rfl : u = _ := List.mem_singleton.1 h
        rfl
section
variable {w : World} {A B : Option Addr} {n c m d : Nat}
set_option maxRecDepth 100000 in
set_option maxHeartbeats 8000000 in
theorem oRel13_own (p : Pd) (h : Int) (o : Nat) (held : Bool) (ho : o < 2 ^ 64) (hord : p.wait.Pairwise (fun a b => a.1 < b.1)) (hp : PoolA w A n c B m d p) (hs : smallR p) :
    Calls Try.prog 21 #[.agg #[.int .i64 h, .slice A n c, .slice B m d], .int .u64 (o : Int), .bool held] w fun e w' => ∃ A' n' c' B' m' d' ss, e = .returned (.agg #[.int .i64 h, .slice A' n' c', .slice B' m' d']) ∧ PoolF w' w.heap.size A' n' c' B' m' d' (relP p o held) ss ∧ Below w.heap.size w w' := by
  have hmx : Try.prog.follows .mixedOrders = true := by kernel_rfl
  obtain ⟨X1, hX1⟩ : ∃ x, w.alloc (.cells #[.int .i64 h, .slice A n c, .slice B m d] 25) = x := ⟨_, rfl⟩
  obtain ⟨X2, hX2⟩ : ∃ x, X1.alloc (.cells #[.int .u64 (o : Int)] 43) = x := ⟨_, rfl⟩
  obtain ⟨X3, hX3⟩ : ∃ x, X2.alloc (.cells #[.bool held] 4) = x := ⟨_, rfl⟩
  obtain ⟨W1, hW1⟩ : ∃ x, X3.alloc (.cells #[.int .i64 0, .slice none 0 0, .slice none 0 0] 25) = x := ⟨_, rfl⟩
  have s1 : X1.heap.size = w.heap.size + 1 := by rw [← hX1]; simp
  have s2 : X2.heap.size = w.heap.size + 1 + 1 := by rw [← hX2, ← s1]; simp
  have s3 : X3.heap.size = w.heap.size + 1 + 1 + 1 := by rw [← hX3, ← s2]; simp
  have s4 : W1.heap.size = w.heap.size + 1 + 1 + 1 + 1 := by rw [← hW1, ← s3]; simp
  have bW1 : Below w.heap.size w W1 := by
    have b1 : Below w.heap.size w X1 := hX1 ▸ (Below.refl _ w).alloc (Nat.le_refl _) _
    have b2 : Below w.heap.size w X2 := hX2 ▸ b1.alloc b1.size _
    have b3 : Below w.heap.size w X3 := hX3 ▸ b2.alloc b2.size _
    exact hW1 ▸ b3.alloc b3.size _
  have HXP : Hid (Has W1 w.heap.size 25 #[.int .i64 h, .slice A n c, .slice B m d]) := Lib.hid (hW1 ▸ (hX3 ▸ (hX2 ▸ (hX1 ▸ Has.made w _ _ : Has X1 _ _ _).alloc _ : Has X2 _ _ _).alloc _ : Has X3 _ _ _).alloc _)
  have HXO : Hid (Has W1 (w.heap.size + 1) 43 #[.int .u64 (o : Int)]) := Lib.hid (s1 ▸ (hW1 ▸ (hX3 ▸ (hX2 ▸ Has.made X1 _ _ : Has X2 _ _ _).alloc _ : Has X3 _ _ _).alloc _ : Has W1 X1.heap.size _ _))
  have HXH : Hid (Has W1 (w.heap.size + 1 + 1) 4 #[.bool held]) := Lib.hid (s2 ▸ (hW1 ▸ (hX3 ▸ Has.made X2 _ _ : Has X3 _ _ _).alloc _ : Has W1 X2.heap.size _ _))
  have HZ : Hid (Has W1 (w.heap.size + 1 + 1 + 1) 25 #[.int .i64 0, .slice none 0 0, .slice none 0 0]) := Lib.hid (s3 ▸ (hW1 ▸ Has.made X3 _ _ : Has W1 X3.heap.size _ _))
  have HSZ : Hid (w.heap.size ≤ W1.heap.size ∧ W1.heap.size = w.heap.size + 1 + 1 + 1 + 1) := Lib.hid ⟨bW1.size, s4⟩
  have HBW := Lib.hid bW1
  have hmm : m ≤ 1000 := by have h1 := hs.2.1; have := hp.wait.len; omega
  have HSM := Lib.hid hs
  have HOW := Lib.hid (oOwn13_any p h (hp.below bW1) hs)
  have HMN := Lib.hid (mono_txn hord o held hp.wait.len)
  have HML := Lib.hid hp.wait.len
  have HWW : Hid ((((w.alloc (.cells #[.int .i64 h, .slice A n c, .slice B m d] 25)).alloc (.cells #[.int .u64 (o : Int)] 43)).alloc (.cells #[.bool held] 4)).alloc (.cells #[.int .i64 0, .slice none 0 0, .slice none 0 0] 25) = W1) := Lib.hid (by rw [hX1, hX2, hX3, hW1])
  have z0 := HXP.out.cell 0
  have z1 := HXP.out.cell 1
  have z2 := HXP.out.cell 2
  clear hX1 hX2 hX3 hW1 s1 s2 s3 s4 bW1 hp hs hord ho
  go_enter Try.func21, Try.ntmps21
  go_upto_region 2 with (go_at_call 27; (try rw [HWW.out]); (with_reducible refine HOW.out.mono ?_); rintro e w1 ⟨A1, c1, Bb, d1, ss, rfl, hf, hb⟩; have PF := Lib.hid hf; have B1 := Lib.hid hb; clear hf hb)
  obtain ⟨V1, hV1⟩ : ∃ x, w1.alloc (.cells #[.int .i64 h, .slice A1 n c1, .slice Bb m d1] 25) = x := ⟨_, rfl⟩
  rw [hV1]
  have bV1 : Below w1.heap.size w1 V1 := hV1 ▸ (Below.refl _ _).alloc (Nat.le_refl _) _
  have BV1 : Hid (Below W1.heap.size W1 V1) := Lib.hid (B1.out.trans (bV1.mono B1.out.size))
  have HG : Hid (Has V1 w1.heap.size 25 #[.int .i64 h, .slice A1 n c1, .slice Bb m d1]) := Lib.hid (hV1 ▸ Has.made _ _ _)
  have PV : Hid (PoolF V1 W1.heap.size A1 n c1 Bb m d1 p ss) := Lib.hid (PF.out.below bV1)
  have HWV : Hid (W1.heap.size ≤ w1.heap.size) := Lib.hid B1.out.size
  obtain ⟨G, hG⟩ : ∃ G, w1.heap.size = G := ⟨_, rfl⟩
  rw [hG] at HG HWV ⊢
  clear hV1 bV1 PF B1 hG
  have hsf := fun (ww : World) (a : Addr) (f : Fn) (m : Mode) => run_store Try.prog ww a (.func f #[] #[.pointer (some ⟨w.heap.size + 1 + 1, 0, none⟩), .pointer (some ⟨w.heap.size + 1, 0, none⟩)]) m rfl
  go_upto_region 3 with fail
  have b2 : Below V1.heap.size V1 (V1.alloc (.cells #[.func (.func 29) #[] #[.pointer (some ⟨w.heap.size + 1 + 1, 0, none⟩), .pointer (some ⟨w.heap.size + 1, 0, none⟩)]] 64)) := (Below.refl _ _).alloc (Nat.le_refl _) _
  have hfn : Has (V1.alloc (.cells #[.func (.func 29) #[] #[.pointer (some ⟨w.heap.size + 1 + 1, 0, none⟩), .pointer (some ⟨w.heap.size + 1, 0, none⟩)]] 64)) V1.heap.size 64 #[.func (.func 29) #[] #[.pointer (some ⟨w.heap.size + 1 + 1, 0, none⟩), .pointer (some ⟨w.heap.size + 1, 0, none⟩)]] := Has.made _ _ _
  obtain ⟨V2, hV2⟩ : ∃ x, V1.alloc (.cells #[.func (.func 29) #[] #[.pointer (some ⟨w.heap.size + 1 + 1, 0, none⟩), .pointer (some ⟨w.heap.size + 1, 0, none⟩)]] 64) = x := ⟨_, rfl⟩
  rw [hV2] at b2 hfn ⊢
  have BV2 : Hid (Below W1.heap.size W1 V2) := Lib.hid (BV1.out.trans (b2.mono BV1.out.size))
  have HG2 := Lib.hid (HG.out.below b2 HG.out.lt)
  have PV2 := Lib.hid (PV.out.below b2)
  obtain ⟨gR, hgR⟩ : ∃ x, V1.heap.size = x := ⟨_, rfl⟩
  rw [hgR] at hfn ⊢
  have hrk : RK V2 gR (w.heap.size + 1 + 1) (w.heap.size + 1) o held := ⟨hfn.cell 0, (HXH.out.below BV2.out HXH.out.lt).cell 0, (HXO.out.below BV2.out HXO.out.lt).cell 0⟩
  have HST : Hid (St13 V2 gR (w.heap.size + 1 + 1) (w.heap.size + 1) o held Bb m p.wait ss) := Lib.hid ⟨hrk, fun h0 => by
    obtain ⟨b, e, _, _, hc⟩ := PV2.out.reads h0
    exact ⟨b, 0, e, hc⟩⟩
  have HSF := Lib.hid (stabF13_any (c := d1) HST.out HMN.out hmm)
  unfold NilEnd at HSF
  have HSE : Hid (∀ w1, Below V2.heap.size V2 w1 → Calls Try.prog 32 #[.int .i64 (m : Int), .func (.func 33) #[] #[.pointer (some ⟨gR, 0, none⟩), .pointer (some ⟨G, 0, none⟩)]] w1 fun e w' => ∃ k : Nat, e = .returned (.int .i64 (k : Int)) ∧ k ≤ m ∧ (∀ i, i < k → (rankW o held p.wait i == 1) = false) ∧ (∀ i, k ≤ i → i < m → (rankW o held p.wait i == 1) = true) ∧ Below w1.heap.size w1 w') := Lib.hid (fun w1 b1 => sSearch13_any (w := w1) (fun i => rankW o held p.wait i == 1) hmm (fun w2 b2 i hi => by
      have b12 := b1.trans (b2.mono b1.size)
      have := relC13_any (i := i) (HST.out.below b12) ((HG2.out.below b12 HG2.out.lt).cell 2) hi
      simpa using this) (fun i j hij hj h1 => by
      have h2 := HMN.out i j hij hj
      have h3 : rankW o held p.wait i = 1 := by simpa using h1
      have h4 : rankW o held p.wait j ≤ 1 := (rankN_two o held _).2
      have h5 : rankW o held p.wait j = 1 := by omega
      simp [h5]) (enters_of Try.func33 (by kernel_rfl) rfl))
  have y0 := HG2.out.cell 0
  have y1 := HG2.out.cell 1
  have y2 := HG2.out.cell 2
  clear hV2 b2 hfn hgR hrk hsf
  go_upto_region 5 with (first
    | (go_at_call 30; (with_reducible refine HSF.out.mono ?_); rintro e3 w3 ⟨rfl, b3⟩; have B3 := Lib.hid b3; have y2 := (HG2.out.below b3 HG2.out.lt).cell 2; clear b3)
    | (go_at_call 32; (with_reducible refine (HSE.out _ B3.out).mono ?_); rintro e4 w4 ⟨k, rfl, hk, hk1, hk2, b4⟩; have B4 := Lib.hid (B3.out.trans (b4.mono B3.out.size)); have HK1 := Lib.hid hk1; have HK2 := Lib.hid hk2; clear b4 hk1 hk2))
  have HFS := Lib.hid (filter_split (l := p.wait) (f := goneB o held) (k := k) (fun i h1 h2 => by rw [gone_rank]; have := HK1.out i h1; unfold rankW at this; rw [this]; rfl) (fun i h1 h2 => by rw [gone_rank]; have := HK2.out i h1 (by have := HML.out; omega); unfold rankW at this; rw [this]; rfl))
  have HG4 := Lib.hid (HG2.out.below B4.out HG2.out.lt)
  have PV4 := Lib.hid (PV2.out.below B4.out)
  have BV4 : Hid (Below W1.heap.size W1 w4) := Lib.hid (BV2.out.trans (B4.out.mono BV2.out.size))
  have hrm := PV4.out.room
  have hr1 := hrm.1
  have hr2 : d1 ≤ 9223372036854775807 := by have := hrm.2; unfold maxLen at this; omega
  have hkI0 : (0 : Int) ≤ (k : Int) := by omega
  have hkI1 : (k : Int) ≤ (m : Int) := by omega
  have hkI2 : (k : Int) ≤ (d1 : Int) := by omega
  have hkd : k ≤ d1 := by omega
  obtain ⟨L, hL⟩ : ∃ x, srtZ (p.free ++ catZ (p.wait.take k)) = x := ⟨_, rfl⟩
  have hsml : smallR ⟨0, p.free, p.wait.take k⟩ := by
    have h1 := HSM.out
    have h2 := cat_sub (List.take_sublist k p.wait)
    refine ⟨?_, ?_, by show (0 : Int) < 2097152; decide, by show (-4096 : Int) < 0; decide⟩
    · show p.free.length + (catZ (p.wait.take k)).length ≤ 10000
      have := h1.1
      omega
    · show (p.wait.take k).length ≤ 1000
      rw [List.length_take]
      have := h1.2.1
      omega
  have HLI : Hid (∀ w1, Below w4.heap.size w4 w1 → Calls Try.prog 17 #[.agg #[.int .i64 0, .slice A1 n c1, .slice Bb k d1]] w1 (OwnZ L w1)) := Lib.hid (fun w1 b1 => by
    have h1 := (PV4.out.below b1).a
    have := oList13_own (w := w1) ⟨0, p.free, p.wait.take k⟩ 0 ⟨h1.free, h1.wait.cut hk⟩ hsml
    rw [show listedP ⟨0, p.free, p.wait.take k⟩ = L from hL] at this
    exact this)
  obtain ⟨nL, hnL⟩ : ∃ x, L.length = x := ⟨_, rfl⟩
  have HNL := Lib.hid hnL
  have HL := Lib.hid hL
  have HCB : Hid (∀ w', Below w4.heap.size w4 w' → (fun w' : World => w'.cell? ⟨G, 1, none⟩ = some (.slice A1 n c1) ∧ w'.cell? ⟨G, 2, none⟩ = some (.slice Bb m d1) ∧ w'.frozen? ⟨G, 1, none⟩ = false) w') := Lib.hid (fun w' b => by
    have h1 := HG4.out.below b HG4.out.lt
    exact ⟨h1.cell 1, h1.cell 2, h1.free 1⟩)
  have hSd : (fun w' : World => w'.cell? ⟨G, 1, none⟩ = some (.slice A1 n c1) ∧ w'.cell? ⟨G, 2, none⟩ = some (.slice Bb m d1) ∧ w'.frozen? ⟨G, 1, none⟩ = false) w4.drew := HCB.out _ (Below.refl _ _).drew
  clear hL hnL hsml hrm
  go_wp2
  rename_i K hK
  refine wp_heldK (fun w' : World => w'.cell? ⟨G, 1, none⟩ = some (.slice A1 n c1) ∧ w'.cell? ⟨G, 2, none⟩ = some (.slice Bb m d1) ∧ w'.frozen? ⟨G, 1, none⟩ = false) 9 K hmx ?_ (fun _ _ h => h)
  refine wpAnyK_pure (i := 0) (v := .pointer (some ⟨G, 1, none⟩)) rfl (by kernel_rfl) (by kernel_rfl) (by kernel_rfl) (by decide) (fun _ _ _ h => h) (Or.inl ⟨by rfl, ?_⟩) (.inr hSd) ?_
  · intro w6 _
    go_simp
  simp only [Act.put, List.setIfInBounds_toArray, List.set_cons_zero, List.set_cons_succ, List.getElem_toArray, List.getElem_cons_zero]
  refine wpAnyK_take (i := 1) (v := .slice A1 n c1) rfl (by kernel_rfl) (by kernel_rfl) (by kernel_rfl) (by kernel_rfl) (by decide) (by kernel_rfl) (fun _ _ _ h => h) (Or.inl ⟨by rfl, ?_⟩) hSd ?_
  · rintro w6 ⟨k1, k2, k3⟩
    go_simp
  simp only [Act.put, List.setIfInBounds_toArray, List.set_cons_zero, List.set_cons_succ, List.getElem_toArray, List.getElem_cons_zero, List.getElem_cons_succ]
  refine wpAnyK_pure (i := 2) (v := .pointer (some ⟨G, 2, none⟩)) rfl (by kernel_rfl) (by kernel_rfl) (by kernel_rfl) (by decide) (fun _ _ _ h => h) (Or.inl ⟨by rfl, ?_⟩) (.inr hSd) ?_
  · intro w6 _
    go_simp
  simp only [Act.put, List.setIfInBounds_toArray, List.set_cons_zero, List.set_cons_succ, List.getElem_toArray, List.getElem_cons_zero, List.getElem_cons_succ]
  refine wpAnyK_take (i := 3) (v := .slice Bb m d1) rfl (by kernel_rfl) (by kernel_rfl) (by kernel_rfl) (by kernel_rfl) (by decide) (by kernel_rfl) (fun _ _ _ h => h) (Or.inl ⟨by rfl, ?_⟩) hSd ?_
  · rintro w6 ⟨k1, k2, k3⟩
    go_simp
  simp only [Act.put, List.setIfInBounds_toArray, List.set_cons_zero, List.set_cons_succ, List.getElem_toArray, List.getElem_cons_zero, List.getElem_cons_succ]
  refine wpAnyK_pure (i := 4) (v := .int .i64 (k : Int)) rfl (by kernel_rfl) (by kernel_rfl) (by kernel_rfl) (by decide) (fun _ _ _ h => h) (Or.inl ⟨by rfl, ?_⟩) (.inr hSd) ?_
  · intro w6 _
    go_simp
  simp only [Act.put, List.setIfInBounds_toArray, List.set_cons_zero, List.set_cons_succ, List.getElem_toArray, List.getElem_cons_zero, List.getElem_cons_succ]
  refine wpAnyK_pure (i := 5) (v := .slice Bb k d1) rfl (by kernel_rfl) (by kernel_rfl) (by kernel_rfl) (by decide) (fun _ _ _ h => h) (Or.inl ⟨by rfl, ?_⟩) (.inr hSd) ?_
  · intro w6 _
    go_simp
  simp only [Act.put, List.setIfInBounds_toArray, List.set_cons_zero, List.set_cons_succ, List.getElem_toArray, List.getElem_cons_zero, List.getElem_cons_succ]
  refine wpAnyK_pure (i := 6) (v := .agg #[.int .i64 0, .slice A1 n c1, .slice Bb k d1]) rfl (by kernel_rfl) (by kernel_rfl) (by kernel_rfl) (by decide) (fun _ _ _ h => h) (Or.inl ⟨by rfl, ?_⟩) (.inr hSd) ?_
  · intro w6 _
    go_simp
  simp only [Act.put, List.setIfInBounds_toArray, List.set_cons_zero, List.set_cons_succ, List.getElem_toArray, List.getElem_cons_zero, List.getElem_cons_succ]
  refine wpAnyK_one (i := 7) (by kernel_rfl) rfl (fun K5 hK5 => ?_)
  go_simp
  go_at_call 17
  (with_reducible refine (HLI.out _ (Below.refl _ _).drew).mono ?_)
  rintro e20 w20 ⟨A5, c5, rfl, o20, b20'⟩
  rw [HNL.out] at o20
  try simp only [HNL.out]
  have b20 : Below w4.heap.size w4 w20 := (Below.refl _ w4).drew.trans b20'
  have h20 : (fun w' : World => w'.cell? ⟨G, 1, none⟩ = some (.slice A1 n c1) ∧ w'.cell? ⟨G, 2, none⟩ = some (.slice Bb m d1) ∧ w'.frozen? ⟨G, 1, none⟩ = false) w20 := HCB.out _ b20
  refine hK5.out _ _ (.inr h20) ?_
  clear hK5 K5
  refine wpAnyK_pure (i := 8) (v := .pointer (some ⟨G, 1, none⟩)) rfl (by kernel_rfl) (by kernel_rfl) (by kernel_rfl) (by decide) (fun _ _ _ h => h) (Or.inl ⟨by rfl, ?_⟩) (.inr h20) ?_
  · intro w6 _
    go_simp
  simp only [Act.put, List.setIfInBounds_toArray, List.set_cons_zero, List.set_cons_succ, List.getElem_toArray, List.getElem_cons_zero, List.getElem_cons_succ]
  have q1 := h20.1
  have q2 := h20.2.2
  refine wpAnyK_one (i := 9) (by kernel_rfl) rfl (fun K5 hK5 => ?_)
  go_simp
  refine hK5.out _ _ (.inl (by kernel_rfl)) ?_
  clear hK5 K5
  refine wpAnyK_done (by kernel_rfl) ?_ _
  refine hK _ _ ?_
  have hG20 := HG4.out.below b20 HG4.out.lt
  have HG5 : Hid (Has (w20.setCell ⟨G, 1, none⟩ (.slice A5 nL c5)) G 25 #[.int .i64 h, .slice A5 nL c5, .slice Bb m d1]) := Lib.hid (hG20.store 1 _)
  have PV5 := Lib.hid ((PV4.out.below b20).store hG20 1 (.slice A5 nL c5))
  have R5 := Lib.hid (((RowF.of_own o20).low BV4.out.size).store hG20 (by decide) 1 (.slice A5 nL c5))
  have B5 : Hid (Below W1.heap.size W1 (w20.setCell ⟨G, 1, none⟩ (.slice A5 nL c5))) := Lib.hid ((BV4.out.trans (b20.mono BV4.out.size)).setCell (p := ⟨G, 1, none⟩) HWV.out _)
  obtain ⟨V5, hV5⟩ : ∃ x, w20.setCell ⟨G, 1, none⟩ (.slice A5 nL c5) = x := ⟨_, rfl⟩
  rw [hV5] at HG5 PV5 R5 B5 ⊢
  have y1' := HG5.out.cell 1
  have y2' := HG5.out.cell 2
  clear hV5 q1 q2 h20 hSd o20 hG20 b20 b20'
  obtain ⟨AL, hAL⟩ : ∃ x, (if d1 = k then Bb else Option.map (fun x => x.add (k * 2)) Bb) = x := ⟨_, rfl⟩
  have HCW : Hid (Calls Try.prog 34 #[.slice AL (m - k) (d1 - k)] V5 fun e w' => ∃ A' c', e = .returned (.slice A' (m - k) c') ∧ w'.ownsRow V5.heap.size 56 2 (.slice A' (m - k) c') (m - k) (cellsW (p.wait.drop k) (ss.drop k) (m - k)) ∧ Below V5.heap.size V5 w') := Lib.hid (by
    refine cloneW13_any AL (m - k) (d1 - k) _ V5 (by omega) (cellsW_len _ _ _) (cellsW_one _ _ _) (fun e => ?_) (fun ad e j u hj => ?_)
    · rcases PV5.out.own.2 with ⟨e2, _⟩ | ⟨g, cap, cur, e2, _⟩
      · injection e2 with _ e3 e4
        omega
      · injection e2 with e3 _ _
        subst e3
        rw [← hAL] at e
        split at e <;> cases e
    · have hpos : 0 < m - k := by
        have h1 := (List.getElem?_eq_some_iff.1 hj).1
        rw [cellsW_len] at h1
        omega
      have hne : ¬ d1 = k := by omega
      obtain ⟨b, eb, _, _, _⟩ := PV5.out.reads (by omega)
      subst eb
      rw [if_neg hne] at hAL
      have h2 : (cellsW p.wait ss m)[k * 2 + j]? = some u := by
        have h3 := cellsW_drop p.wait ss k (m - k)
        rw [show k + (m - k) = m by omega] at h3
        rw [h3, List.getElem?_append_right (by rw [cellsW_len]; omega), cellsW_len, show k * 2 + j - k * 2 = j by omega]
        exact hj
      have h4 := PV5.out.own.cellAt (k * 2 + j) (by have := (List.getElem?_eq_some_iff.1 h2).1; rw [cellsW_len] at this; exact this)
      rw [h2] at h4
      rw [e] at hAL
      have h5 : ad = ⟨b, k * 2, none⟩ := by
        have : (⟨b, 0, none⟩ : Addr).add (k * 2) = ad := by simpa using hAL
        rw [add_plain, Nat.zero_add] at this
        exact this.symm
      rw [h5, add_plain]
      exact h4)
  go_wp2_with (go_at_call 34; (with_reducible refine HCW.out.mono ?_); rintro e6 w6 ⟨A7, c7, rfl, o6, b6⟩; have O6 := Lib.hid o6; have B6 := Lib.hid b6; have HG6 := Lib.hid (HG5.out.below b6 HG5.out.lt); have x0 := HG6.out.cell 0; have x1 := HG6.out.cell 1; have x2 := HG6.out.cell 2; have e2 := HG6.out.free 2; have HZ6 := Lib.hid (((HZ.out.below B5.out HZ.out.lt).below b6 (HZ.out.below B5.out HZ.out.lt).lt).away (p := ⟨G, 2, none⟩) (by show w.heap.size + 1 + 1 + 1 ≠ G; have := HWV.out; have := HSZ.out.2; omega) (.slice A7 (m - k) c7)); have g0 := HZ6.out.cell 0; have g1 := HZ6.out.cell 1; have g2 := HZ6.out.cell 2; have f0 := HZ6.out.free 0; have f1 := HZ6.out.free 1; have f2 := HZ6.out.free 2; have HG7 := Lib.hid (HG6.out.store 2 (.slice A7 (m - k) c7)); have d0 := HG7.out.cell 0; have d1' := HG7.out.cell 1; have d2 := HG7.out.cell 2; clear o6 b6)
  have k3 := ((HZ6.out.store 0 (.int .i64 h)).store 1 (.slice A5 nL c5)).store 2 (.slice A7 (m - k) c7)
  have q0 := k3.cell 0
  have q1 := k3.cell 1
  have q2 := k3.cell 2
  have hrel : relP p o held = ⟨p.hi, L, p.wait.drop k⟩ := by
    unfold relP
    rw [HFS.out.1, HFS.out.2, HL.out]
  have hfin : PoolF (w6.setCell ⟨G, 2, none⟩ (.slice A7 (m - k) c7)) W1.heap.size A5 nL c5 A7 (m - k) c7 ⟨p.hi, L, p.wait.drop k⟩ (ss.drop k) := by
    refine ⟨(R5.out.below B6.out).store HG6.out (by decide) 2 _, ?_, ?_, own_cell13 (O6.out.mono B5.out.size) HG6.out (by decide) 2 _, fun i hi => ?_, fun x hx => PV5.out.big x (List.mem_of_mem_drop hx)⟩
    · show m - k = (p.wait.drop k).length
      rw [List.length_drop, ← HML.out]
    · show (ss.drop k).length = (p.wait.drop k).length
      rw [List.length_drop, List.length_drop, PV5.out.same]
    · have h1 := PV5.out.each (k + i) (by omega)
      have h2 : (ss.drop k).getD i sl0 = ss.getD (k + i) sl0 := by rw [List.getD_eq_getElem?_getD, List.getD_eq_getElem?_getD, List.getElem?_drop]
      have h3 : (p.wait.drop k).getD i w00 = p.wait.getD (k + i) w00 := by rw [List.getD_eq_getElem?_getD, List.getD_eq_getElem?_getD, List.getElem?_drop]
      show RowF _ _ ((ss.drop k).getD i sl0) ((p.wait.drop k).getD i w00).2
      rw [h2, h3]
      exact (h1.below B6.out).store HG6.out (by decide) 2 _
  refine ⟨rfl, .agg #[.int .i64 h, .slice A5 nL c5, .slice A7 (m - k) c7], ?_, A5, nL, c5, A7, m - k, c7, ss.drop k, rfl, ?_, ?_⟩
  · simp at q0 q1 q2
    simp [results, Try.f21, go_sem, q0, q1, q2]
  · rw [hrel]
    exact (hfin.low HSZ.out.1).put3 HZ6.out _ _ _
  · exact below_put3 ((HBW.out.trans ((B5.out.trans (B6.out.mono B5.out.size)).mono HSZ.out.1)).setCell (p := ⟨G, 2, none⟩) (Nat.le_trans HSZ.out.1 HWV.out) _) (by omega) _ _ _
end
end Go.Proofs.Ytoelojlabmconaa
end

section
namespace Go.Proofs.Ytoelojlabmconaa
open Go.RowKit
set_option linter.unusedVariables false

theorem smallP_says {p : Pd} (h : smallP p = true) : smallR p := by
  unfold smallP at h
  unfold smallR
  have h2 : p.free.length + (catZ p.wait).length ≤ 200 ∧ p.wait.length ≤ 40 ∧ p.hi < 1048576 ∧ -4096 < p.hi := by simpa using h
  omega
theorem smallP_few {p : Pd} (h : smallP p = true) : p.free.length + (catZ p.wait).length ≤ 200 ∧ p.wait.length ≤ 40 ∧ p.hi < 1048576 ∧ -4096 < p.hi := by
  unfold smallP at h
  simpa using h
def PoolN (w : World) (lo : Nat) (A : Option Addr) (n c : Nat) (B : Option Addr) (m d : Nat) (p : Pd) : Prop :=
  ∀ w2 : World, w.heap.size ≤ w2.heap.size → (∀ g, lo ≤ g → g < w.heap.size → w2.heap[g]? = w.heap[g]?) → PoolA w2 A n c B m d p
theorem PoolN.pool {w : World} {lo : Nat} {A : Option Addr} {n c : Nat} {B : Option Addr} {m d : Nat} {p : Pd} (h : PoolN w lo A n c B m d p) : PoolA w A n c B m d p := h w (Nat.le_refl _) (fun _ _ _ => rfl)
theorem PoolN.below {w w' : World} {lo : Nat} {A : Option Addr} {n c : Nat} {B : Option Addr} {m d : Nat} {p : Pd} (h : PoolN w lo A n c B m d p) (b : Below w.heap.size w w') : PoolN w' lo A n c B m d p :=
  fun w2 hs hg => h w2 (Nat.le_trans b.size hs) (fun g h1 h2 => (hg g h1 (Nat.lt_of_lt_of_le h2 b.size)).trans (b.block g h2))
theorem PoolN.grown {w w' : World} {lo k : Nat} {A : Option Addr} {n c : Nat} {B : Option Addr} {m d : Nat} {p : Pd} (h : PoolN w lo A n c B m d p) (b : w.grownBy w' (some k)) (hk : k < lo) : PoolN w' lo A n c B m d p :=
  fun w2 hs hg => h w2 (Nat.le_trans b.size hs) (fun g h1 h2 => (hg g h1 (Nat.lt_of_lt_of_le h2 b.size)).trans (b.block g h2 (fun e => by injection e with e; omega)))
theorem PoolN.own {w w' w0 : World} {lo : Nat} {A : Option Addr} {n c : Nat} {B : Option Addr} {m d : Nat} {p : Pd} (h : PoolN w lo A n c B m d p) {b : Nat} {e : TypeId} {s k : Nat} {v : Value} {xs : List Value} (ho : w0.ownsRow b e s v k xs) (hlo : w0.heap.size ≤ lo) (hg : w.grownBy w' v.ownBlock) : PoolN w' lo A n c B m d p := by
  rcases hq : v.ownBlock with _ | g
  · rw [hq] at hg
    exact fun w2 hs h1 => h w2 (Nat.le_trans hg.size hs) (fun g h2 h3 => (h1 g h2 (Nat.lt_of_lt_of_le h3 hg.size)).trans (hg.block g h3 (by simp)))
  · rw [hq] at hg
    exact h.grown hg (Nat.lt_of_lt_of_le (ho.lt g hq).2 hlo)
theorem own_other13 {w w' w0 : World} {b b0 : Nat} {e e0 : TypeId} {s s0 n n0 : Nat} {v v0 : Value} {xs xs0 : List Value} (h : w.ownsRow b e s v n xs) (ho : w0.ownsRow b0 e0 s0 v0 n0 xs0) (hlo : w0.heap.size ≤ b) (hg : w.grownBy w' v0.ownBlock) : w'.ownsRow b e s v n xs := by
  refine h.kept hg ?_
  rcases hq : v.ownBlock with _ | g
  · exact Or.inl rfl
  · refine Or.inr (fun e => ?_)
    have h1 := (h.lt g hq).1
    have h2 := (ho.lt g e.symm).2
    omega
def PoolU (X : Nat → Prop) (w : World) (A : Option Addr) (n c : Nat) (B : Option Addr) (m d : Nat) (p : Pd) : Prop :=
  ∀ w2 : World, w.heap.size ≤ w2.heap.size → (∀ g, g < w.heap.size → ¬ X g → w2.heap[g]? = w.heap[g]?) → PoolA w2 A n c B m d p
section
variable {X : Nat → Prop} {w w' : World} {A : Option Addr} {n c : Nat} {B : Option Addr} {m d : Nat} {p : Pd}
theorem PoolU.pool (h : PoolU X w A n c B m d p) : PoolA w A n c B m d p := h w (Nat.le_refl _) (fun _ _ _ => rfl)
theorem PoolU.below (h : PoolU X w A n c B m d p) (b : Below w.heap.size w w') : PoolU X w' A n c B m d p :=
  fun w2 hs hg => h w2 (Nat.le_trans b.size hs) (fun g h1 h2 => (hg g (Nat.lt_of_lt_of_le h1 b.size) h2).trans (b.block g h1))
theorem PoolU.turn {k : Nat} (h : PoolU X w A n c B m d p) (b : w.grownBy w' (some k)) (hk : X k) : PoolU X w' A n c B m d p :=
  fun w2 hs hg => h w2 (Nat.le_trans b.size hs) (fun g h1 h2 => (hg g (Nat.lt_of_lt_of_le h1 b.size) h2).trans (b.block g h1 (fun e => by injection e with e; subst e; exact h2 hk)))
theorem PoolN.u {lo : Nat} (h : PoolN w lo A n c B m d p) (hX : ∀ g, X g → g < lo) : PoolU X w A n c B m d p :=
  fun w2 hs hg => h w2 hs (fun g h1 h2 => hg g h2 (fun hx => by have := hX g hx; omega))
end
structure BPool (T : TypeId) (w : World) (g : Nat) (h : Int) (A : Option Addr) (n c : Nat) (B : Option Addr) (m d : Nat) (p : Pd) : Prop where
  hs : Has w g T #[.int .i64 h, .slice A n c, .slice B m d]
  po : PoolA w A n c B m d p
theorem BPool.below {T : TypeId} {w w' : World} {g : Nat} {h : Int} {A : Option Addr} {n c : Nat} {B : Option Addr} {m d : Nat} {p : Pd} (x : BPool T w g h A n c B m d p) (b : Below w.heap.size w w') : BPool T w' g h A n c B m d p := ⟨x.hs.below b x.hs.lt, x.po.below b⟩
theorem PoolF.n {w : World} {lo : Nat} {A : Option Addr} {n c : Nat} {B : Option Addr} {m d : Nat} {p : Pd} {ss : List Sl13} (h : PoolF w lo A n c B m d p ss) : PoolN w lo A n c B m d p := fun w2 hs hg => (h.moved hs hg).a
section
variable {w : World} {A B : Option Addr} {n c m d : Nat}
theorem oList13_any (p : Pd) (h : Int) (hhi : p.hi = h) (hp : PoolA w A n c B m d p) (hs : smallR p) :
    Calls Try.prog 17 #[.agg #[.int .i64 h, .slice A n c, .slice B m d]] w (RowZEnd (listedP p) w) :=
  (oList13_own p h hp hs).mono (fun e w' h1 => by
    obtain ⟨A2, c2, e1, h2, h3⟩ := h1
    exact ⟨A2, _, c2, e1, RowZ.of_own h2, h3⟩)
theorem oRel13_any (p : Pd) (h : Int) (o : Nat) (held : Bool) (hord : p.wait.Pairwise (fun a b => a.1 < b.1)) (ho : o < 2 ^ 64) (hp : PoolA w A n c B m d p) (hs : smallR p) :
    Calls Try.prog 21 #[.agg #[.int .i64 h, .slice A n c, .slice B m d], .int .u64 (o : Int), .bool held] w fun e w' => ∃ A' n' c' B' m' d', e = .returned (.agg #[.int .i64 h, .slice A' n' c', .slice B' m' d']) ∧ PoolA w' A' n' c' B' m' d' (relP p o held) ∧ Below w.heap.size w w' :=
  (oRel13_own p h o held ho hord hp hs).mono (fun e w' h1 => by
    obtain ⟨A', n', c', B', m', d', ss, e1, h2, h3⟩ := h1
    exact ⟨A', n', c', B', m', d', e1, h2.a, h3⟩)
theorem oGive13_any (p : Pd) (h : Int) (t : Nat) (pg : List Int) (L : Option Addr) (nl cl : Nat) (hlast : ∀ x ∈ p.wait, x.1 ≠ t) (ht : t < 2 ^ 64) (hp : PoolA w A n c B m d p) (hl : RowZ w L nl cl pg) (hs : smallR p) (hn : nl ≤ 100000) :
    Calls Try.prog 20 #[.agg #[.int .i64 h, .slice A n c, .slice B m d], .int .u64 (t : Int), .slice L nl cl] w fun e w' => ∃ A' n' c' B' m' d', e = .returned (.agg #[.int .i64 h, .slice A' n' c', .slice B' m' d']) ∧ PoolA w' A' n' c' B' m' d' (giveP p t pg) ∧ Below w.heap.size w w' :=
  (oGive13_own p h t pg L nl cl ht hlast hp hl hs hn).mono (fun e w' h1 => by
    obtain ⟨A', n', c', B', m', d', ss, e1, h2, h3⟩ := h1
    exact ⟨A', n', c', B', m', d', e1, h2.a, h3⟩)
theorem oTake13_any (p : Pd) (h q many : Int) (hhi : p.hi = h) (hp : PoolA w A n c B m d p) (hs : smallR p) (hq : -1099511627776 ≤ q ∧ q ≤ 1099511627776) (hm : -9223372036854775808 ≤ many ∧ many ≤ 9223372036854775807) :
    Calls Try.prog 19 #[.agg #[.int .i64 h, .slice A n c, .slice B m d], .int .i64 q, .int .i64 many] w fun e w' => ∃ h' A' n' c' B' m' d' L nl cl, e = .returned (.tuple #[.agg #[.int .i64 h', .slice A' n' c', .slice B' m' d'], .slice L nl cl, .bool (decide (0 ≤ many ∧ many ≤ roomP p q))]) ∧ Below w.heap.size w w' ∧
      (0 ≤ many ∧ many ≤ roomP p q → h' = (takeP p many.toNat).hi ∧ PoolN w' w.heap.size A' n' c' B' m' d' (takeP p many.toNat) ∧ w'.ownsRow w.heap.size 3 1 (.slice L nl cl) nl ((takenP p many.toNat).map (Value.int .i64))) ∧
      (¬ (0 ≤ many ∧ many ≤ roomP p q) → h' = h ∧ PoolN w' w.heap.size A' n' c' B' m' d' p ∧ nl = 0) :=
  (oTake13_own p h q many hhi hp hs hq hm).mono (fun e w' h1 => by
    obtain ⟨h', A', n', c', B', m', d', ss, L, nl, cl, e1, h2, h3, h4⟩ := h1
    exact ⟨h', A', n', c', B', m', d', L, nl, cl, e1, h2, fun x => ⟨(h3 x).1.symm, (h3 x).2.1.n, (h3 x).2.2⟩, fun x => ⟨(h4 x).1, (h4 x).2.1.n, (h4 x).2.2⟩⟩)
/-! The same, of pools that read none of the blocks X. -/
theorem oRel13_u (X : Nat → Prop) (p : Pd) (h : Int) (o : Nat) (held : Bool) (hX : ∀ g, X g → g < w.heap.size) (hord : p.wait.Pairwise (fun a b => a.1 < b.1)) (ho : o < 2 ^ 64) (hp : PoolU X w A n c B m d p) (hs : smallR p) :
    Calls Try.prog 21 #[.agg #[.int .i64 h, .slice A n c, .slice B m d], .int .u64 (o : Int), .bool held] w fun e w' => ∃ A' n' c' B' m' d', e = .returned (.agg #[.int .i64 h, .slice A' n' c', .slice B' m' d']) ∧ PoolU X w' A' n' c' B' m' d' (relP p o held) ∧ Below w.heap.size w w' :=
  (oRel13_own p h o held ho hord hp.pool hs).mono (fun e w' h1 => by
    obtain ⟨A', n', c', B', m', d', ss, e1, h2, h3⟩ := h1
    exact ⟨A', n', c', B', m', d', e1, h2.n.u hX, h3⟩)
theorem oGive13_u (X : Nat → Prop) (p : Pd) (h : Int) (t : Nat) (pg : List Int) (L : Option Addr) (nl cl : Nat) (hX : ∀ g, X g → g < w.heap.size) (hlast : ∀ x ∈ p.wait, x.1 ≠ t) (ht : t < 2 ^ 64) (hp : PoolU X w A n c B m d p) (hl : RowZ w L nl cl pg) (hs : smallR p) (hn : nl ≤ 100000) :
    Calls Try.prog 20 #[.agg #[.int .i64 h, .slice A n c, .slice B m d], .int .u64 (t : Int), .slice L nl cl] w fun e w' => ∃ A' n' c' B' m' d', e = .returned (.agg #[.int .i64 h, .slice A' n' c', .slice B' m' d']) ∧ PoolU X w' A' n' c' B' m' d' (giveP p t pg) ∧ Below w.heap.size w w' :=
  (oGive13_own p h t pg L nl cl ht hlast hp.pool hl hs hn).mono (fun e w' h1 => by
    obtain ⟨A', n', c', B', m', d', ss, e1, h2, h3⟩ := h1
    exact ⟨A', n', c', B', m', d', e1, h2.n.u hX, h3⟩)
theorem oTake13_u (X : Nat → Prop) (p : Pd) (h q many : Int) (hhi : p.hi = h) (hp : PoolU X w A n c B m d p) (hX : ∀ g, X g → g < w.heap.size) (hs : smallR p) (hq : -1099511627776 ≤ q ∧ q ≤ 1099511627776) (hm : -9223372036854775808 ≤ many ∧ many ≤ 9223372036854775807) :
    Calls Try.prog 19 #[.agg #[.int .i64 h, .slice A n c, .slice B m d], .int .i64 q, .int .i64 many] w fun e w' => ∃ h' A' n' c' B' m' d' L nl cl, e = .returned (.tuple #[.agg #[.int .i64 h', .slice A' n' c', .slice B' m' d'], .slice L nl cl, .bool (decide (0 ≤ many ∧ many ≤ roomP p q))]) ∧ Below w.heap.size w w' ∧
      (0 ≤ many ∧ many ≤ roomP p q → (takeP p many.toNat).hi = h' ∧ PoolU X w' A' n' c' B' m' d' (takeP p many.toNat) ∧ w'.ownsRow w.heap.size 3 1 (.slice L nl cl) nl ((takenP p many.toNat).map (Value.int .i64))) ∧
      (¬ (0 ≤ many ∧ many ≤ roomP p q) → p.hi = h' ∧ PoolU X w' A' n' c' B' m' d' p ∧ nl = 0) :=
  (oTake13_own p h q many hhi hp.pool hs hq hm).mono (fun e w' h1 => by
    obtain ⟨h', A', n', c', B', m', d', ss, L, nl, cl, e1, h2, h3, h4⟩ := h1
    exact ⟨h', A', n', c', B', m', d', L, nl, cl, e1, h2, fun x => ⟨(h3 x).1, (h3 x).2.1.n.u hX, (h3 x).2.2⟩, fun x => ⟨hhi.trans (h4 x).1.symm, (h4 x).2.1.n.u hX, (h4 x).2.2⟩⟩)
end
end Go.Proofs.Ytoelojlabmconaa
end
