import Derived.Test.YtclaiigelgbpdaaJ03
import Derived.Test.YtclaiigelgbpdaaJ00
import Derived.Deep.Onto
/- Of a claim's texts, joined: Trf Trg. No statement but in the last. -/
section
namespace Go.Proofs.Ytclaiigelgbpdaa
open Go.RowKit
set_option linter.unusedVariables false

inductive BndT : Tr → Prop where
  | leaf (p : Int) (l : List Lf) (h1 : l.length ≤ 100) (h2 : ∀ x ∈ l, x.k.length ≤ 500 ∧ x.d.length ≤ 1000) : BndT (.leaf p l)
  | branch (p : Int) (l : List (List UInt8 × Tr)) (h1 : l.length ≤ 100) (h2 : ∀ x ∈ l, x.1.length ≤ 500) (h3 : ∀ x ∈ l, BndT x.2) : BndT (.branch p l)
theorem BndT.len {F : Nat → Prop} {w : World} {es : List CE} {t : Tr} (hb : BndT t) (h : cellsR F w es t) : es.length ≤ 100 := by
  cases hb with
  | leaf p l h1 h2 => rw [(show Both (CellL F w) es l from h).1]; exact h1
  | branch p l h1 h2 h3 => rw [(show Both (CellT F w) es l from h).1]; exact h1
theorem BndT.kid {p : Int} {l : List (List UInt8 × Tr)} (hb : BndT (.branch p l)) : ∀ x ∈ l, BndT x.2 := by
  cases hb with
  | branch p l h1 h2 h3 => exact h3
def findC (es : List CE) (s : List UInt8) : Option (List UInt8) := (es.find? (fun e => e.k == s)).map (·.d)
theorem findC_leaf {F : Nat → Prop} {w : World} {es : List CE} {p : Int} {l : List Lf} (h : Both (CellL F w) es l) (s : List UInt8) : findC es s = findT (.leaf p l) s := by
  rw [findT]
  unfold findC getL15
  induction l generalizing es with
  | nil =>
    have : es = [] := List.length_eq_zero_iff.1 h.1
    subst this
    rfl
  | cons x l ih =>
    cases es with
    | nil => exact absurd h.1 (by simp)
    | cons e es =>
      obtain ⟨⟨h1, h2⟩, _⟩ := h.2 0 e x rfl rfl
      have h3 := ih (es := es) (by have := h.drop 1; simpa using this)
      rw [List.find?_cons, List.find?_cons, h1]
      cases x.k == s
      · exact h3
      · simp only [Option.map_some, h2]
theorem findC_yes {es : List CE} {s : List UInt8} {k : Nat} {e : CE} (he : es[k]? = some e) (hk : ∀ j x, j < k → es[j]? = some x → (x.k == s) = false) (h : (e.k == s) = true) : findC es s = some e.d := by
  have hlt := (List.getElem?_eq_some_iff.1 he).1
  have h1 : es = es.take k ++ e :: es.drop (k + 1) := by
    have h2 := (List.getElem?_eq_some_iff.1 he).2
    rw [← h2, ← List.drop_eq_getElem_cons hlt, List.take_append_drop]
  have h3 : (es.take k).find? (fun e => e.k == s) = none := List.find?_eq_none.2 fun x hx => by
    obtain ⟨j, hj⟩ := List.getElem?_of_mem hx
    rw [List.getElem?_take] at hj
    split at hj
    · rename_i hjk
      rw [hk j x hjk hj]
      decide
    · cases hj
  unfold findC
  rw [h1, List.find?_append, h3, List.find?_cons, h]
  rfl
theorem findC_no {es : List CE} {s : List UInt8} (hk : ∀ j x, j < es.length → es[j]? = some x → (x.k == s) = false) : findC es s = none := by
  have h3 : es.find? (fun e => e.k == s) = none := List.find?_eq_none.2 fun x hx => by
    obtain ⟨j, hj⟩ := List.getElem?_of_mem hx
    rw [hk j x (List.getElem?_eq_some_iff.1 hj).1 hj]
    decide
  unfold findC
  rw [h3]
  rfl
def tellF (r : Option (List UInt8)) : Value := match r with
  | some d => .tuple #[.string ⟨d.toArray⟩, .bool true]
  | none => .tuple #[.string ⟨#[]⟩, .bool false]
set_option maxRecDepth 100000 in
set_option maxHeartbeats 4000000 in
theorem r15Find_any (s : List UInt8) : ∀ (t : Tr) (F : Nat → Prop) (v : NV) (w : World), RepN F w v t → BndT t → Calls Try.prog 18 #[nvV v, .string ⟨s.toArray⟩] w fun e w' => e = .returned (tellF (findT t s)) ∧ Below w.heap.size w w' := by
  intro t
  induction t using Tr.ind with
  | hl p l =>
    intro F v w h hb
    obtain ⟨hp, hlf, es, hr, hc⟩ := repN_iff.1 h
    obtain ⟨p', lf, A, n, c⟩ := v
    simp only at hp hlf hr
    subst hlf
    unfold nvV
    simp only
    have hlen := hr.len4
    have hn : n ≤ 100 := by rw [hlen]; exact hb.len hc
    obtain ⟨W, hW⟩ : ∃ W, w.alloc (.cells #[.int .i64 p', .bool true, .slice A n c] 33) = W := ⟨_, rfl⟩
    have hB0 : Below w.heap.size w W := hW ▸ (Below.refl _ w).alloc (Nat.le_refl _) _
    have hX : Has W w.heap.size 33 #[.int .i64 p', .bool true, .slice A n c] := hW ▸ Has.made w 33 _
    have HR := Lib.hid (hr.below hB0)
    have HN := Lib.hid hlen
    have HB0 := Lib.hid hB0
    obtain ⟨P, hP⟩ : ∃ P, w.heap.size = P := ⟨_, rfl⟩
    rw [hP] at hX HB0
    have x0 := hX.cell 0
    have x1 := hX.cell 1
    have x2 := hX.cell 2
    obtain ⟨ss, hss⟩ : ∃ ss : ByteArray, (⟨s.toArray⟩ : ByteArray) = ss := ⟨_, rfl⟩
    have hsl : ss.toList = s := by rw [← hss]; exact Go.ByteArray.toList_mk _
    rw [show kindT (Tr.leaf p l) = true from rfl]
    have HFT : Hid (findT (.leaf p l) s = findC es s) := Lib.hid (findC_leaf hc s).symm
    rw [hss]
    clear hss hlen hB0 hr h hc hb hp
    go_enter Try.func18, Try.ntmps18
    go_wp2
    try rw [hP]
    clear hW
    go_loop [6] (fun i => ∃ k : Nat, i = .int .i64 (k : Int) ∧ k ≤ n ∧ ∀ j x, j < k → es[j]? = some x → (x.k == s) = false) (fun i => n - (intOf i).toNat)
    case atStart => exact ⟨0, rfl, Nat.zero_le _, fun j x h => absurd h (Nat.not_lt_zero _)⟩
    case round =>
      obtain ⟨k, rfl, hk, hno⟩ := hrel
      have HNO := Lib.hid hno
      clear hno
      by_cases hlt : k < n
      · obtain ⟨e, he⟩ : ∃ e, es[k]? = some e := ⟨_, List.getElem?_eq_getElem (by rw [← HN.out]; exact hlt)⟩
        obtain ⟨g, off, rfl, _, c0, c1, _, _⟩ := HR.out.at4 he
        have HE := Lib.hid he
        obtain ⟨sk, hsk⟩ : ∃ sk : ByteArray, (⟨e.k.toArray⟩ : ByteArray) = sk := ⟨_, rfl⟩
        have hkl : sk.toList = e.k := by rw [← hsk]; exact Go.ByteArray.toList_mk _
        rw [hsk] at c0
        have i0 : (0 : Int) ≤ (k : Int) := by omega
        have i1 : (k : Int) < (n : Int) := by omega
        clear he hsk
        cases hq : (e.k == s)
        · have hq2 : (sk.toList == s) = false := by rw [hkl]; exact hq
          have HQ := Lib.hid hq
          clear hq hkl
          go_wp2
          go_round
          case rel => exact ⟨k + 1, by go_num, by omega, fun j x hj hx => by
            rcases Nat.lt_or_ge j k with h | h
            · exact HNO.out j x h hx
            · have : j = k := by omega
              subst this
              rw [HE.out] at hx
              cases hx
              exact HQ.out⟩
          case measure => simp [intOf]; omega
        · have hq2 : (sk.toList == s) = true := by rw [hkl]; exact hq
          have HF := Lib.hid (findC_yes HE.out HNO.out hq)
          clear hq hkl
          go_wp2
          go_ret2
          rw [HFT.out, HF.out]
          exact ⟨rfl, HB0.out⟩
      · have HF := Lib.hid (findC_no (es := es) (s := s) (fun j x hj hx => HNO.out j x (by have := HN.out; omega) hx))
        have i1 : ¬ (k : Int) < (n : Int) := by omega
        go_wp2
        go_ret2
        rw [HFT.out, HF.out]
        exact ⟨rfl, HB0.out⟩
  | hb p l ih =>
    intro F v w h hb
    obtain ⟨hp, hlf, es, hr, hc⟩ := repN_iff.1 h
    obtain ⟨p', lf, A, n, c⟩ := v
    simp only at hp hlf hr
    subst hlf
    unfold nvV
    simp only
    have hlen := hr.len4
    have hn : n ≤ 100 := by rw [hlen]; exact hb.len hc
    obtain ⟨W, hW⟩ : ∃ W, w.alloc (.cells #[.int .i64 p', .bool false, .slice A n c] 33) = W := ⟨_, rfl⟩
    have hB0 : Below w.heap.size w W := hW ▸ (Below.refl _ w).alloc (Nat.le_refl _) _
    have hX : Has W w.heap.size 33 #[.int .i64 p', .bool false, .slice A n c] := hW ▸ Has.made w 33 _
    have HR := Lib.hid (hr.below hB0)
    have HN := Lib.hid hlen
    have HB0 := Lib.hid hB0
    obtain ⟨P, hP⟩ : ∃ P, w.heap.size = P := ⟨_, rfl⟩
    rw [hP] at hX HB0
    have x0 := hX.cell 0
    have x1 := hX.cell 1
    have x2 := hX.cell 2
    obtain ⟨ss, hss⟩ : ∃ ss : ByteArray, (⟨s.toArray⟩ : ByteArray) = ss := ⟨_, rfl⟩
    have hsl : ss.toList = s := by rw [← hss]; exact Go.ByteArray.toList_mk _
    rw [show kindT (Tr.branch p l) = false from rfl]
    have hc2 : Both (CellT F w) es l := hc
    by_cases hz : l = []
    · subst hz
      have hes : es = [] := List.length_eq_zero_iff.1 hc2.1
      subst hes
      have hn0 : n = 0 := hlen
      have HFT : Hid (findT (.branch p []) s = findC [] s) := Lib.hid (by rw [findT]; rfl)
      have HFE : Hid (findC [] s = none) := Lib.hid rfl
      rw [hss]
      subst hn0
      clear hss hlen hB0 hr h hc hb hp hc2 HN
      go_enter Try.func18, Try.ntmps18
      go_wp2
      try rw [hP]
      clear hW
      go_loop [6] (fun i => i = .int .i64 0) (fun i => 0)
      case atStart => rfl
      case round =>
        subst hrel
        go_wp2
        go_ret2
        rw [HFT.out, HFE.out]
        exact ⟨rfl, HB0.out⟩
    · have hl0 : 0 < l.length := List.length_pos_iff.2 hz
      have hn1 : 0 < n := by rw [hlen, hc2.1]; exact hl0
      have hwl := wayT_lt s hz
      have hWE : wayC es s (es.length - 1) = wayT l s := by rw [way_cells hc2 s _ (by rw [hc2.1]; omega), hc2.1]; rfl
      have hFT : findT (.branch p l) s = findT (kidT l (wayT l s)).2 s := findT_branch p s hz
      obtain ⟨k, hk⟩ : ∃ k, wayT l s = k := ⟨_, rfl⟩
      rw [hk] at hwl hWE hFT
      have hkid : l[k]? = some (kidT l k) := kid_some hwl
      obtain ⟨e, he, v2, ⟨⟨_, hed, _⟩, hen, hkr⟩, hrep⟩ := hc2.at_ hkid
      obtain ⟨g, off, rfl, hFg, c0, c1, c2, c3⟩ := hr.at4 he
      obtain ⟨p2, lf2, A2, n2, c22⟩ := v2
      obtain ⟨kg, koff, hka, hFk, hkc⟩ := hkr.reads (by simp [nvL])
      rw [hka, hen] at c3
      obtain ⟨kc, hkcc⟩ : ∃ kc, e.kc = kc := ⟨_, rfl⟩
      rw [hkcc] at c3
      have d0 := hkc 0 _ rfl
      have d1 := hkc 1 _ rfl
      have d2 := hkc 2 _ rfl
      simp only [Nat.add_zero] at d0
      have HXL : Hid (∀ w' : World, Below W.heap.size W w' → w'.cell? ⟨P, 0, none⟩ = some (.int .i64 p') ∧ w'.cell? ⟨P, 1, none⟩ = some (.bool false) ∧ w'.cell? ⟨P, 2, none⟩ = some (.slice (some ⟨g, off, none⟩) n c)) := Lib.hid (fun w' hb => ⟨(hb.cell (p := ⟨P, 0, none⟩) hX.lt).trans x0, (hb.cell (p := ⟨P, 1, none⟩) hX.lt).trans x1, (hb.cell (p := ⟨P, 2, none⟩) hX.lt).trans x2⟩)
      have HRW : Hid (∀ w' : World, Below W.heap.size W w' → w'.cell? ⟨g, off + k * 4 + 3, none⟩ = some (.slice (some ⟨kg, koff, none⟩) 1 kc)) := Lib.hid (fun w' hb => cell_below c3 (below_step hB0 hb))
      have HKD : Hid (∀ w' : World, Below W.heap.size W w' → w'.cell? ⟨kg, koff, none⟩ = some (.int .i64 p2) ∧ w'.cell? ⟨kg, koff + 1, none⟩ = some (.bool lf2) ∧ w'.cell? ⟨kg, koff + 2, none⟩ = some (.slice A2 n2 c22)) := Lib.hid (fun w' hb => ⟨cell_below d0 (below_step hB0 hb), cell_below d1 (below_step hB0 hb), cell_below d2 (below_step hB0 hb)⟩)
      have HWY : Hid (∀ w' : World, Below W.heap.size W w' → Calls Try.prog 28 #[.agg #[.int .i64 p', .bool false, .slice (some ⟨g, off, none⟩) n c], .string ss] w' fun e w3 => e = .returned (.int .i64 (k : Int)) ∧ Below w'.heap.size w' w3) := Lib.hid (fun w' hb => by
        have := r15Way_es F ⟨p', false, some ⟨g, off, none⟩, n, c⟩ es s w' (hr.below (below_step hB0 hb)) (by rw [← hlen]; exact hn)
        rw [hWE, hss] at this
        exact this)
      have HFD : Hid (∀ w' : World, Below W.heap.size W w' → Calls Try.prog 18 #[.agg #[.int .i64 p2, .bool lf2, .slice A2 n2 c22], .string ss] w' fun e w3 => e = .returned (tellF (findT (kidT l k).2 s)) ∧ Below w'.heap.size w' w3) := Lib.hid (fun w' hb2 => by
        have := ih _ (kid_mem hwl) F ⟨p2, lf2, A2, n2, c22⟩ w' (hrep.stay (below_step hB0 hb2)) (hb.kid _ (kid_mem hwl))
        rw [hss] at this
        exact this)
      obtain ⟨rs, rb, hrs⟩ : ∃ rs rb, tellF (findT (kidT l k).2 s) = .tuple #[.string rs, .bool rb] := by
        cases findT (kidT l k).2 s with
        | none => exact ⟨_, _, rfl⟩
        | some d => exact ⟨_, _, rfl⟩
      rw [← hFT] at hrs
      rw [← hFT, hrs] at HFD
      have HTELL := Lib.hid hrs
      have hkn : k < n := by rw [hlen, hc2.1]; exact hwl
      have i0 : (0 : Int) ≤ (k : Int) := by omega
      have i1 : (k : Int) < (n : Int) := by omega
      have i2 : (0 : Int) < (n : Int) := by omega
      have hmx : Try.prog.follows .mixedOrders = true := by kernel_rfl
      rw [hss, HTELL.out]
      have HXX := Lib.hid hX
      clear hss hlen hB0 hr h hc hb hp hc2 HN hz hl0 hwl hWE hFT hk hkid he hrep hkr hen hed hka hFk hkc c0 c1 c2 c3 d0 d1 d2 hkcc hrs ih HR
      go_enter Try.func18, Try.ntmps18
      go_wp2
      try rw [hP]
      have hS0 : Below W.heap.size W W.drew := (Below.refl _ W).drew
      first | (rename_i K hK; refine wp_held (fun w' : World => Below W.heap.size W w') K hmx ?_ (fun _ _ h => h)) | (rename_i K hK hz; refine wp_held (fun w' : World => Below W.heap.size W w') K hmx ?_ (fun _ _ h => h))
      refine wpAnyH_take (i := 0) (v := .pointer (some ⟨P, 2, none⟩)) (lit rfl) (by kernel_rfl) (by kernel_rfl) (by kernel_rfl) (fun _ _ _ h => h) (Or.inl ⟨by rfl, ?_⟩) hS0 ?_
      · rintro w6 hb6
        go_simp
      simp only [Act.put, List.setIfInBounds_toArray, List.set_cons_zero, List.set_cons_succ]
      refine wpAnyH_take (i := 1) (v := .slice (some ⟨g, off, none⟩) n c) (lit rfl) (by kernel_rfl) (by kernel_rfl) (by kernel_rfl) (fun _ _ _ h => h) (Or.inl ⟨by rfl, ?_⟩) hS0 ?_
      · rintro w6 hb6
        have y6 := (HXL.out w6 hb6).2.2
        go_simp
      simp only [Act.put, List.setIfInBounds_toArray, List.set_cons_zero, List.set_cons_succ]
      refine wpAnyH_take (i := 2) (v := .agg #[.int .i64 p', .bool false, .slice (some ⟨g, off, none⟩) n c]) (lit rfl) (by kernel_rfl) (by kernel_rfl) (by kernel_rfl) (fun _ _ _ h => h) (Or.inl ⟨by rfl, ?_⟩) hS0 ?_
      · rintro w6 hb6
        obtain ⟨y60, y61, y62⟩ := HXL.out w6 hb6
        go_simp
      simp only [Act.put, List.setIfInBounds_toArray, List.set_cons_zero, List.set_cons_succ]
      refine wpAnyH_take (i := 3) (v := .string ss) (lit rfl) (by kernel_rfl) (by kernel_rfl) (by kernel_rfl) (fun _ _ _ h => h) (Or.inl ⟨by rfl, ?_⟩) hS0 ?_
      · rintro w6 hb6
        go_simp
      simp only [Act.put, List.setIfInBounds_toArray, List.set_cons_zero, List.set_cons_succ]
      refine wpAnyH_take (i := 10) (v := .string ss) (lit rfl) (by kernel_rfl) (by kernel_rfl) (by kernel_rfl) (fun _ _ _ h => h) (Or.inl ⟨by rfl, ?_⟩) hS0 ?_
      · rintro w6 hb6
        go_simp
      simp only [Act.put, List.setIfInBounds_toArray, List.set_cons_zero, List.set_cons_succ]
      refine wpAnyH_ready (rs := [4]) (by kernel_rfl) (by simp) ?_
      refine AllReadyH.cons (lit rfl) (fun K5 hK5 => ?_) AllReadyH.nil
      refine step_open rfl ?_
      go_simp
      go_at_call 28
      (with_reducible refine (HWY.out _ hS0).mono ?_)
      rintro e1 w1 ⟨rfl, b1⟩
      have hS1 : Below W.heap.size W w1 := below_step hS0 b1
      clear hS0 b1
      refine hK5.out _ _ hS1 (fun _ => ?_)
      clear hK5 K5
      refine wpAnyH_take (i := 5) (v := .pointer (some ⟨g, off + k * 4, none⟩)) (lit rfl) (by kernel_rfl) (by kernel_rfl) (by kernel_rfl) (fun _ _ _ h => h) (Or.inl ⟨by rfl, ?_⟩) hS1 ?_
      · rintro w6 hb6
        go_simp
      simp only [Act.put, List.setIfInBounds_toArray, List.set_cons_zero, List.set_cons_succ]
      refine wpAnyH_take (i := 6) (v := .pointer (some ⟨g, off + k * 4 + 3, none⟩)) (lit rfl) (by kernel_rfl) (by kernel_rfl) (by kernel_rfl) (fun _ _ _ h => h) (Or.inl ⟨by rfl, ?_⟩) hS1 ?_
      · rintro w6 hb6
        go_simp
      simp only [Act.put, List.setIfInBounds_toArray, List.set_cons_zero, List.set_cons_succ]
      refine wpAnyH_take (i := 7) (v := .slice (some ⟨kg, koff, none⟩) 1 kc) (lit rfl) (by kernel_rfl) (by kernel_rfl) (by kernel_rfl) (fun _ _ _ h => h) (Or.inl ⟨by rfl, ?_⟩) hS1 ?_
      · rintro w6 hb6
        have y6 := HRW.out w6 hb6
        go_simp
      simp only [Act.put, List.setIfInBounds_toArray, List.set_cons_zero, List.set_cons_succ]
      refine wpAnyH_take (i := 8) (v := .pointer (some ⟨kg, koff, none⟩)) (lit rfl) (by kernel_rfl) (by kernel_rfl) (by kernel_rfl) (fun _ _ _ h => h) (Or.inl ⟨by rfl, ?_⟩) hS1 ?_
      · rintro w6 hb6
        go_simp
      simp only [Act.put, List.setIfInBounds_toArray, List.set_cons_zero, List.set_cons_succ]
      refine wpAnyH_take (i := 9) (v := .agg #[.int .i64 p2, .bool lf2, .slice A2 n2 c22]) (lit rfl) (by kernel_rfl) (by kernel_rfl) (by kernel_rfl) (fun _ _ _ h => h) (Or.inl ⟨by rfl, ?_⟩) hS1 ?_
      · rintro w6 hb6
        obtain ⟨y60, y61, y62⟩ := HKD.out w6 hb6
        go_simp
      simp only [Act.put, List.setIfInBounds_toArray, List.set_cons_zero, List.set_cons_succ]
      refine wpAnyH_ready (rs := [11]) (by kernel_rfl) (by simp) ?_
      refine AllReadyH.cons (lit rfl) (fun K5 hK5 => ?_) AllReadyH.nil
      refine step_open rfl ?_
      go_simp
      go_at_call 18
      (with_reducible refine (HFD.out _ hS1).mono ?_)
      rintro e2 w2 ⟨rfl, b2⟩
      have hS2 : Below W.heap.size W w2 := below_step hS1 b2
      clear hS1 b2
      try rw [HTELL.out]
      refine hK5.out _ _ hS2 (fun _ => ?_)
      clear hK5 K5
      refine wpAnyH_take (i := 12) (v := .string rs) (lit rfl) (by kernel_rfl) (by kernel_rfl) (by kernel_rfl) (fun _ _ _ h => h) (Or.inl ⟨by rfl, ?_⟩) hS2 ?_
      · rintro w6 hb6
        go_simp
      simp only [Act.put, List.setIfInBounds_toArray, List.set_cons_zero, List.set_cons_succ]
      refine wpAnyH_take (i := 13) (v := .bool rb) (lit rfl) (by kernel_rfl) (by kernel_rfl) (by kernel_rfl) (fun _ _ _ h => h) (Or.inl ⟨by rfl, ?_⟩) hS2 ?_
      · rintro w6 hb6
        go_simp
      simp only [Act.put, List.setIfInBounds_toArray, List.set_cons_zero, List.set_cons_succ]
      refine wpAnyH_take (i := 14) (v := .string rs) (lit rfl) (by kernel_rfl) (by kernel_rfl) (by kernel_rfl) (fun _ _ _ h => h) (Or.inl ⟨by rfl, ?_⟩) hS2 ?_
      · rintro w6 hb6
        go_simp
      simp only [Act.put, List.setIfInBounds_toArray, List.set_cons_zero, List.set_cons_succ]
      refine wpAnyH_take (i := 15) (v := .bool rb) (lit rfl) (by kernel_rfl) (by kernel_rfl) (by kernel_rfl) (fun _ _ _ h => h) (Or.inl ⟨by rfl, ?_⟩) hS2 ?_
      · rintro w6 hb6
        go_simp
      simp only [Act.put, List.setIfInBounds_toArray, List.set_cons_zero, List.set_cons_succ]
      refine wpAnyH_done (by kernel_rfl) ?_ _
      refine hK _ _ ?_
      go_wp2
      go_ret2
      have HB9 := HB0.out
      rw [← hP] at HB9 ⊢
      exact ⟨rfl, below_step HB9 hS2⟩
end Go.Proofs.Ytclaiigelgbpdaa
end

section
namespace Go.Proofs.Ytclaiigelgbpdaa
open Go.RowKit
set_option linter.unusedVariables false

theorem wpList_append_rw {P : Program} {w : World} {ops : Array Oper} {rest : List Oper} {o : Oper} {a : Act} {Q : Exit → Act → World → Prop} (hgd : o.guard = none) (s x : Operand) (t : TypeId)
    (ho : o.op = .call { callee := .builtin .append, args := #[s, x], argTypes := #[t, t] }) (base : Nat) (e : TypeId) (i : TypeInfo) (z : Value) (size bytes : Nat) (ht : P.underlying t = some (.slice e)) (hi : P.info? e = some i) (hz : i.zero = some z)
    (hsize : i.size = size) (hby : i.bytes = bytes) (hzs : z.cells.size = size) (hsz : 0 < size) (v : Value) (n : Nat) (xs : List Value) (hs : a.eval s = v) (hown : w.ownsRow base e size v n xs) (A : Option Addr) (m c : Nat) (l : List Value) (hx : a.eval x = .slice A m c)
    {F : Nat → Prop} (hr : RwF F w A m c size l) (h1 : ∀ u ∈ l, u.oneCell' = true) (h63 : n + m ≤ maxLen) (hbytes : (n + m) * bytes ≤ 140737488355328) (hbase : base ≤ w.heap.size)
    (h : ∀ v' w', w'.ownsRow base e size v' (n + m) (xs ++ l) → w.grownBy w' v.ownBlock → wpList P ops Q rest (a.put o.dst v') w') : wpList P ops Q (o :: rest) a w := by
  rcases A with _ | ad
  · have h0 : l = [] := by
      rcases l with _ | ⟨d, l⟩
      · rfl
      · obtain ⟨g, off, ha, _⟩ := hr.reads (by simp)
        cases ha
    subst h0
    have hc := hr.nil rfl
    have hm : m = 0 := by have := hr.room; omega
    subst hc hm
    exact wpList_append_own_none hgd s x t ho base e i size ht hi v n xs hs hown hx (h v w (by simpa using hown) (World.grownBy.refl w _))
  · refine wpList_append_own w hgd s x t ho base e i z size bytes ht hi hz hsize hby hzs hsz v n xs hs hown ad m c l hx hr.len (fun j u hj => ?_) h1 h63 hbytes hbase (fun v' w' h1 h2 _ => h v' w' h1 h2)
    obtain ⟨g, off, hA, _, hc⟩ := hr.reads (by
      have := (List.getElem?_eq_some_iff.1 hj).1
      omega)
    injection hA with hA
    subst hA
    rw [add_plain]
    exact hc j u hj
theorem one_cells (l : List CE) : ∀ u ∈ flatC l, u.oneCell' = true := by
  intro u hu
  unfold flatC at hu
  obtain ⟨e, _, he⟩ := List.mem_flatMap.1 hu
  simp only [ceV, List.mem_cons, List.mem_nil_iff, or_false] at he
  rcases he with rfl | rfl | rfl | rfl <;> rfl
def CellsE (es : List CE) (w : World) (e : Ending) (w' : World) : Prop := ∃ A c, e = .returned (.slice A es.length c) ∧ RwF (fun g => w.heap.size ≤ g) w' A es.length c 4 (flatC es) ∧ Below w.heap.size w w'
theorem c15info : (Try.prog.info? 53).map (fun i => (i.zero, i.size, i.bytes)) = some (some (.agg #[.string ⟨#[]⟩, .string ⟨#[]⟩, .slice none 0 0, .slice none 0 0]), 4, 80) := by kernel_rfl
set_option maxRecDepth 100000 in
set_option maxHeartbeats 1000000 in
theorem r15with_es (F G : Nat → Prop) (es so : List CE) (A B : Option Addr) (n c m cm k : Nat) (w : World) (h : RwF F w A n c 4 (flatC es)) (h2 : RwF G w B m cm 4 (flatC so)) (hk : k < n) (hn : n ≤ 1000) (hm : m ≤ 1000) :
    Calls Try.prog 46 #[.slice A n c, .int .i64 (k : Int), .slice B m cm] w (CellsE (es.take k ++ (so ++ es.drop (k + 1))) w) := by
  have hlen := h.len4
  have hlen2 := h2.len4
  obtain ⟨AL, hAL⟩ : ∃ x, (if c = k + 1 then A else Option.map (fun x => x.add ((k + 1) * 4)) A) = x := ⟨_, rfl⟩
  have hr1 := h.room
  have hr2 := h.most
  have hr3 : c ≤ 9223372036854775807 := by unfold maxLen at hr2; omega
  have H1 := Lib.hid (h.front (k := k) (by omega))
  have H3 := Lib.hid (h.back (k := k + 1) (by omega))
  rw [← flatC_take] at H1
  rw [← flatC_drop, hAL] at H3
  have H2 := Lib.hid h2
  obtain ⟨ti, hi, hz0, hz1, hz2⟩ := info_parts c15info
  have HEND : Hid (∀ v w', w'.ownsRow w.heap.size 53 4 v (k + m + (n - (k + 1))) (flatC (es.take k ++ (so ++ es.drop (k + 1)))) → Below w.heap.size w w' → CellsE (es.take k ++ (so ++ es.drop (k + 1))) w (.returned v) w') := Lib.hid (fun v w' ho hb => by
    obtain ⟨A, c, rfl, hr⟩ := RwF.own ho
    have hl := hr.len4
    rw [hl] at hr ⊢
    exact ⟨A, c, rfl, hr, hb⟩)
  have hkI : (0 : Int) ≤ (k : Int) := by omega
  have hkn : (k : Int) ≤ (n : Int) := by omega
  have hkc : (k : Int) ≤ (c : Int) := by omega
  have hk1 : (k : Int) + 1 ≤ (n : Int) := by omega
  have hk2 : (k : Int) + 1 ≤ (c : Int) := by omega
  have HO0 := Lib.hid (World.ownsRow_nil w w.heap.size 53 4)
  clear h h2 hlen hlen2
  rw [flatC_app, flatC_app] at HEND
  have HB0 : Hid (Below w.heap.size w w) := Lib.hid (Below.refl _ _)
  go_enter Try.func46, Try.ntmps46
  go_wp2_with (first
    | (at_builtin; refine wpList_append_rw rfl _ _ 31 rfl w.heap.size 53 ti _ 4 80 Try.underlying31 hi hz0 hz1 hz2 rfl (by decide) _ 0 _ rfl HO0.out _ k _ _ rfl H1.out (one_cells _) (by unfold maxLen; omega) (by omega) (Nat.le_refl _) ?_; intro v7 w7 p7 q7; have G7 : Hid (Below w.heap.size w w7) := Lib.hid (below_own14 HB0.out q7 HO0.out (Nat.le_refl _)); have O7 := Lib.hid p7; clear p7 q7)
    | (at_builtin; refine wpList_append_rw rfl _ _ 31 rfl w.heap.size 53 ti _ 4 80 Try.underlying31 hi hz0 hz1 hz2 rfl (by decide) _ (0 + k) _ rfl O7.out _ m _ _ rfl (H2.out.below G7.out) (one_cells _) (by unfold maxLen; omega) (by omega) G7.out.size ?_; intro v8 w8 p8 q8; have G8 : Hid (Below w.heap.size w w8) := Lib.hid (below_own14 G7.out q8 O7.out G7.out.size); have O8 := Lib.hid p8; clear p8 q8)
    | (at_builtin; refine wpList_append_rw rfl _ _ 31 rfl w.heap.size 53 ti _ 4 80 Try.underlying31 hi hz0 hz1 hz2 rfl (by decide) _ (0 + k + m) _ rfl O8.out _ (n - (k + 1)) _ _ rfl (H3.out.below G8.out) (one_cells _) (by unfold maxLen; omega) (by omega) G8.out.size ?_; intro v9 w9 p9 q9; have G9 : Hid (Below w.heap.size w w9) := Lib.hid (below_own14 G8.out q9 O8.out G8.out.size); have O9 := Lib.hid p9; clear p9 q9))
  go_ret
  have ho := O9.out
  rw [List.nil_append, Nat.zero_add, List.append_assoc] at ho
  exact HEND.out _ _ ho G9.out
end Go.Proofs.Ytclaiigelgbpdaa
end
