/- The walk of the law CellsFronts; written by gen/cefronts.py. -/
import Derived.Test.YtlehajpadiiicaaDoorCeBack
namespace Go.Proofs.YtlehajpadiiicaaDoor
open Go.RowKit
set_option linter.unusedVariables false

/-- The error of cells of such a size. -/
def errOf (n : Nat) : Int := if n ≤ 122 then 0 else 1
def PackEr (er : Int) (w : World) (e : Ending) (w' : World) : Prop := ∃ A n c, e = .returned (.tuple #[.slice A n c, .int .i64 er]) ∧ Below w.heap.size w w'
theorem cePack_er (A : Option Addr) (n c : Nat) (q : List Hd) (w : World) (ht : Tab w) (h : CellsA w A n c q) (hf : Few q) :
    Calls Tryd.prog 10 #[.int .u8 3, .slice A n c] w (PackEr (errOf (cSz (lq q))) w) := by
  by_cases hy : cSz (lq q) ≤ 122
  · exact (cePack_yes 3 A n c q w ht h hf ⟨by decide, hy⟩).mono fun e w' ⟨A', c', he, _, _, _, hb⟩ => ⟨A', 128, c', by rw [he]; unfold errOf; rw [if_pos hy], hb⟩
  · exact (cePack_no 3 A n c q w h hf (fun h => hy h.2)).mono fun e w' ⟨he, hb⟩ => ⟨none, 0, 0, by rw [he]; unfold errOf; rw [if_neg hy], hb⟩
theorem CellsA.take_ {w : World} {A : Option Addr} {n c : Nat} {q : List Hd} (h : CellsA w A n c q) (k : Nat) (hk : k ≤ n) : CellsA w A k c (q.take k) :=
  ⟨by rw [List.length_take, ← h.len]; omega, by rw [List.map_take]; exact h.reads.take k, fun x hx => h.each x (List.mem_of_mem_take hx), Nat.le_trans hk h.room, h.most, h.nil⟩
theorem CellsA.drop_ {w : World} {A : Option Addr} {n c : Nat} {q : List Hd} (h : CellsA w A n c q) (k : Nat) (hk : k ≤ n) : CellsA w (if c = k then A else A.map (·.add k)) (n - k) (c - k) (q.drop k) :=
  ⟨by rw [List.length_drop, ← h.len], fun hx => by
    rw [List.map_drop] at hx ⊢
    simp at hx
    obtain ⟨g, off, hA, hcell⟩ := h.reads (by rw [List.length_map]; omega)
    have hr := h.room
    have hl := h.len
    rw [if_neg (by omega), hA]
    refine ⟨g, off + k, by simp [add_plain], fun j u hj => ?_⟩
    rw [Nat.add_assoc]
    exact hcell _ u (by rw [← hj, List.getElem?_drop]), fun x hx => h.each x (List.mem_of_mem_drop hx), by have := h.room; omega, by have := h.most; omega, fun hA => by
      split at hA
      · have := h.nil hA; omega
      · rcases A with _ | a
        · have := h.nil rfl; omega
        · simp at hA⟩
theorem Few.take {q : List Hd} (h : Few q) (k : Nat) : Few (q.take k) := ⟨by have := h.1; rw [List.length_take]; omega, fun x hx => h.2 x (List.mem_of_mem_take hx)⟩
theorem Few.drop {q : List Hd} (h : Few q) (k : Nat) : Few (q.drop k) := ⟨by have := h.1; rw [List.length_drop]; omega, fun x hx => h.2 x (List.mem_of_mem_drop hx)⟩
theorem lq_take (q : List Hd) (k : Nat) : lq (q.take k) = (lq q).take k := List.map_take ..
theorem lq_drop (q : List Hd) (k : Nat) : lq (q.drop k) = (lq q).drop k := List.map_drop ..
theorem one_hdv (q : List Hd) : ∀ u ∈ q.map Hd.v, u.oneCell' = true := by
  intro u hu
  obtain ⟨c, _, rfl⟩ := List.mem_map.1 hu
  rfl
/-- 'append(v, x...)' of slices of bytes, wherever x lies, nil included. -/
theorem wpList_append_cells {P : Program} {w : World} {ops : Array Oper} {rest : List Oper} {o : Oper} {a : Act} {Q : Exit → Act → World → Prop} (hgd : o.guard = none) (s x : Operand) (t : TypeId)
    (ho : o.op = .call { callee := .builtin .append, args := #[s, x], argTypes := #[t, t] }) (base : Nat) (e : TypeId) (i : TypeInfo) (ht : P.underlying t = some (.slice e)) (hi : P.info? e = some i) (hz : i.zero = some (.slice none 0 0))
    (hsize : i.size = 1) (hby : i.bytes = 24) (v : Value) (n : Nat) (xs : List Value) (hs : a.eval s = v) (hown : w.ownsRow base e 1 v n xs) (A : Option Addr) (m c : Nat) (q : List Hd) (hx : a.eval x = .slice A m c) (h : CellsA w A m c q) (hmax : n + m ≤ 1000000) (hbase : base ≤ w.heap.size)
    (hk : ∀ v' w', w'.ownsRow base e 1 v' (n + m) (xs ++ q.map Hd.v) → Below base w w' → wpList P ops Q rest (a.put o.dst v') w') : wpList P ops Q (o :: rest) a w := by
  have hm := h.len
  rcases A with _ | ad
  · have hc := h.nil rfl
    have hr := h.room
    have h0 : q = [] := List.eq_nil_of_length_eq_zero (by omega)
    subst h0
    subst hc
    obtain rfl : m = 0 := by omega
    exact wpList_append_own_none hgd s x t ho base e i 1 ht hi v n xs hs hown hx (hk v w (by simpa using hown) (Below.refl _ _))
  · refine wpList_append_own w hgd s x t ho base e i (.slice none 0 0) 1 24 ht hi hz hsize hby rfl (by decide) v n xs hs hown ad m c (q.map Hd.v) hx (by simp [hm]) (fun j u hj => ?_) (one_hdv q) (by unfold maxLen; omega) (by omega) hbase (fun v' w' h1 h2 _ => hk v' w' h1 (((Below.refl _ w).mono hbase).grown h2 hbase (fun k hk => (hown.lt k hk).1)))
    obtain ⟨g, off, hA', hc⟩ := h.reads (by
      have := (List.getElem?_eq_some_iff.1 hj).1
      omega)
    injection hA' with hA'
    subst hA'
    rw [add_plain]
    exact hc j u hj

set_option maxRecDepth 100000 in
set_option maxHeartbeats 8000000 in
theorem ceFronts_a (A B : Option Addr) (n c at_ m d : Nat) (q : List Hd) (l : List UInt8) (w : World) (ht : Tab w) (h : CellsA w A n c q) (hk : Arg w B m d l) (hs : smallB q = true) (hm : m ≤ 300) (ha : at_ < 256) (hz : cSz (lq q) + m + 1 ≤ 122) :
    Calls Tryd.prog 6 #[.slice A n c, .int .u8 (at_ : Int), .slice B m d] w fun e w' => e = .returned (.bool true) ∧ Below w.heap.size w w' := by
  have hmx : Tryd.prog.follows .mixedOrders = true := by kernel_rfl
  obtain ⟨j0, hj, jz0, jz1, jz2⟩ := info_parts byinfo
  have HT := Lib.hid ht
  have HA := Lib.hid h
  have HK := Lib.hid hk
  have hf := small_few hs
  have HSM := Lib.hid (fun w1 (hb : Below w.heap.size w w1) => small07_any A n c q w1 (h.below hb))
  rw [hs] at HSM
  have HP := Lib.hid (fun w1 (hb : Below w.heap.size w w1) => cePack_er A n c q w1 (ht.below hb) (h.below hb) hf)
  have HZ := Lib.hid (fun w1 (hb : Below w.heap.size w w1) => ceSize_any A n c q w1 (h.below hb) hf)
  have hnc := h.room
  have hcm := h.most
  have hmd := hk.room
  have hdm := hk.most
  unfold maxLen at hcm hdm
  have hn3 : n ≤ 300 := by have := of_decide_eq_true hs; have := h.len; omega
  have e1 : ¬ ((300 : Int) < (m : Int)) := by omega
  obtain ⟨k, hkk, hkn⟩ : ∃ k : Nat, (at_ : Int) % ((n : Int) + 1) = (k : Int) ∧ k ≤ n := ⟨at_ % (n + 1), by simp, by have := Nat.mod_lt at_ (show 0 < n + 1 by omega); omega⟩
  have HPK := Lib.hid (fun w1 (hb : Below w.heap.size w w1) => cePack_er A k c (q.take k) w1 (HT.out.below hb) ((HA.out.below hb).take_ k hkn) (hf.take k))
  have HZK := Lib.hid (fun w1 (hb : Below w.heap.size w w1) => ceSize_any A k c (q.take k) w1 ((HA.out.below hb).take_ k hkn) (hf.take k))
  have HZD := Lib.hid (fun w1 (hb : Below w.heap.size w w1) => ceSize_any _ (n - k) (c - k) (q.drop k) w1 ((HA.out.below hb).drop_ k hkn) (hf.drop k))
  rw [lq_take] at HPK HZK
  rw [lq_drop] at HZD
  have hzs : cSz ((lq q).take k) + cSz ((lq q).drop k) = cSz (lq q) := by rw [← cSz_app, List.take_append_drop]
  have hfm : Few (q ++ [⟨B, m, d, l⟩]) := ⟨by have := hf.1; have := of_decide_eq_true hs; simp; omega, fun x hx => by
    rcases List.mem_append.1 hx with h | h
    · exact hf.2 x h
    · obtain rfl := List.mem_singleton.1 h
      have := hk.len
      show l.length ≤ 1000
      omega⟩
  have hzm : cSz (lq (q ++ [⟨B, m, d, l⟩])) = cSz (lq q) + m + 1 := by
    rw [lq_snoc, cSz_app]
    show cSz (lq q) + (l.length + 1 + 0) = _
    have := hk.len
    omega
  have HPM := Lib.hid (fun A c w1 (hb : Below w.heap.size w w1) (h : CellsA w1 A (n + 1) c (q ++ [⟨B, m, d, l⟩])) => cePack_er A (n + 1) c _ w1 (HT.out.below hb) h hfm)
  have HZM := Lib.hid (fun A c w1 (h : CellsA w1 A (n + 1) c (q ++ [⟨B, m, d, l⟩])) => ceSize_any A (n + 1) c _ w1 h hfm)
  rw [hzm] at HPM HZM
  have hz3 := hf.size
  have HXS := Lib.hid (fun w1 (hb : Below w.heap.size w w1) => show ∀ x ∈ q ++ [⟨B, m, d, l⟩], Arg w1 x.a x.n x.c x.l from fun x hx => by
    rcases List.mem_append.1 hx with h | h
    · exact (HA.out.below hb).each x h
    · obtain rfl := List.mem_singleton.1 h
      exact HK.out.below hb)
  have hzi : (cSz ((lq q).take k) : Int) + (cSz ((lq q).drop k) : Int) = (cSz (lq q) : Int) := by omega
  clear hzs
  have ez : errOf (cSz (lq q)) = 0 := if_pos (by omega)
  rw [ez] at HP
  have ek : errOf (cSz ((lq q).take k)) = 0 := if_pos (by omega)
  rw [ek] at HPK
  have eg : errOf (cSz (lq q) + m + 1) = 0 := if_pos (by omega)
  rw [eg] at HPM
  have hd : decide ((cSz (lq q) : Int) + (m : Int) + 1 ≤ 122) = true := decide_eq_true (by omega)
  clear ez ek eg
  have i0 : (0 : Int) ≤ (k : Int) := by omega
  have i1 : (k : Int) ≤ (c : Int) := by omega
  have i2 : (k : Int) ≤ (n : Int) := by omega
  clear ht h hk hs hf hfm hzm
  generalize cSz ((lq q).take k) = zk at *
  generalize cSz ((lq q).drop k) = zd at *
  generalize cSz (lq q) = z at *
  have hck : c = k ∨ c ≠ k := by omega
  rcases hck with hck | hck
  · rw [if_pos hck] at HZD
    obtain rfl : n = k := by omega
    obtain rfl : c = n := hck
    rw [Nat.sub_self] at HZD
    go_enter Tryd.func6, Tryd.ntmps6
    go_wp2_with (first
      | (rw [hkk])
      | (go_at_call 8; (with_reducible refine (awake07_any _ HT.out).mono ?_); rintro e w0 ⟨rfl, h0⟩; have B0 := Lib.hid h0; clear h0)
      | (go_at_call 9; (with_reducible refine (HSM.out _ B0.out).mono ?_); rintro e w1 ⟨rfl, rfl⟩)
      | (go_at_call 10; (with_reducible refine (HP.out _ B0.out).mono ?_); rintro e w2 ⟨A2, n2, c2, rfl, b2⟩; have B2 := Lib.hid (below_step B0.out b2); clear b2)
      | (go_at_call 10; (with_reducible refine (HPK.out _ B2.out).mono ?_); rintro e w3 ⟨A3, n3, c3, rfl, b3⟩; have B3 := Lib.hid (below_step B2.out b3); clear b3)
      | (at_builtin; refine wpList_append_cells rfl (.tmp 48) (.tmp 49) 22 rfl w3.heap.size 25 j0 Tryd.underlying22 hj jz0 jz1 jz2 (.slice none 0 0) 0 [] rfl (by_own_nil _ _) A c c q rfl (HA.out.below B3.out) (by omega) (Nat.le_refl _) ?_; intro v4 w4 h1 h2; rw [Nat.zero_add, List.nil_append] at h1; have O4 := Lib.hid h1; have B4 := Lib.hid h2; clear h1 h2)
      | (at_builtin; refine wpList_append_one rfl (.tmp 51) (.tmp 53) 22 25 rfl w3.heap.size 25 j0 (.slice none 0 0) 24 Tryd.underlying22 hj jz0 jz1 jz2 rfl v4 c (q.map Hd.v) rfl O4.out (.slice B m d) rfl rfl ?_ ?_ ?_ ?_; (omega); (unfold maxLen; omega); (exact B4.out.size); intro v5 w5 h1 h2; have B5 := Lib.hid (below_step B3.out (B4.out.trans h2)); obtain ⟨A5, c5, rfl, hC5⟩ := CellsA.of_own (q := q ++ [⟨B, m, d, l⟩]) (by rw [hd_snoc]; exact h1) (HXS.out _ B5.out); have C5 := Lib.hid hC5; clear h1 h2 hC5)
      | (go_at_call 10; (with_reducible refine (HPM.out _ _ _ B5.out C5.out).mono ?_); rintro e w6 ⟨A6, n6, c6, rfl, b6⟩; have C6 := Lib.hid (C5.out.below b6); have B6 := Lib.hid (below_step B5.out b6); clear b6)
      | (go_at_call 13; (with_reducible refine (HZ.out _ B6.out).mono ?_); rintro e w7 ⟨rfl, rfl⟩))
    have BD := B6.out.drew
    have hw1 := IntWalk.i64_in ((z : Int) + (m : Int)) (by omega)
    have hw2 := IntWalk.i64_in ((z : Int) + (m : Int) + 1) (by omega)
    have hw3 := IntWalk.i64_in (z : Int) (by omega)
    rename_i K hK
    refine wp_held (fun w' : World => True) K hmx ?_ (fun _ _ h => h)
    refine wpAnyH_take (i := 0) (v := .int .i64 0) rfl (by kernel_rfl) (by kernel_rfl) (by kernel_rfl) (fun _ _ _ h => h) (Or.inl ⟨by rfl, ?_⟩) trivial ?_
    · rintro w6 s1
      go_simp
    simp only [Act.put, List.setIfInBounds_toArray, List.set_cons_zero, List.set_cons_succ, List.getElem_toArray, List.getElem_cons_zero]
    refine wpAnyH_take (i := 1) (v := .bool false) rfl (by kernel_rfl) (by kernel_rfl) (by kernel_rfl) (fun _ _ _ h => h) (Or.inl ⟨by rfl, ?_⟩) trivial ?_
    · rintro w6 s1
      go_simp
    simp only [Act.put, List.setIfInBounds_toArray, List.set_cons_zero, List.set_cons_succ, List.getElem_toArray, List.getElem_cons_zero, List.getElem_cons_succ]
    refine wpAnyH_take (i := 2) (v := .bool false) rfl (by kernel_rfl) (by kernel_rfl) (by kernel_rfl) (fun _ _ _ h => h) (Or.inl ⟨by rfl, ?_⟩) trivial ?_
    · rintro w6 s1
      go_simp
    simp only [Act.put, List.setIfInBounds_toArray, List.set_cons_zero, List.set_cons_succ, List.getElem_toArray, List.getElem_cons_zero, List.getElem_cons_succ]
    refine wpAnyH_take (i := 3) (v := .int .i64 0) rfl (by kernel_rfl) (by kernel_rfl) (by kernel_rfl) (fun _ _ _ h => h) (Or.inl ⟨by rfl, ?_⟩) trivial ?_
    · rintro w6 s1
      go_simp
    simp only [Act.put, List.setIfInBounds_toArray, List.set_cons_zero, List.set_cons_succ, List.getElem_toArray, List.getElem_cons_zero, List.getElem_cons_succ]
    refine wpAnyH_take (i := 4) (v := .bool true) rfl (by kernel_rfl) (by kernel_rfl) (by kernel_rfl) (fun _ _ _ h => h) (Or.inl ⟨by rfl, ?_⟩) trivial ?_
    · rintro w6 s1
      go_simp
    simp only [Act.put, List.setIfInBounds_toArray, List.set_cons_zero, List.set_cons_succ, List.getElem_toArray, List.getElem_cons_zero, List.getElem_cons_succ]
    refine wpAnyH_take (i := 5) (v := .bool true) rfl (by kernel_rfl) (by kernel_rfl) (by kernel_rfl) (fun _ _ _ h => h) (Or.inl ⟨by rfl, ?_⟩) trivial ?_
    · rintro w6 s1
      go_simp
    simp only [Act.put, List.setIfInBounds_toArray, List.set_cons_zero, List.set_cons_succ, List.getElem_toArray, List.getElem_cons_zero, List.getElem_cons_succ]
    refine wpAnyH_take (i := 6) (v := .bool true) rfl (by kernel_rfl) (by kernel_rfl) (by kernel_rfl) (fun _ _ _ h => h) (Or.inl ⟨by rfl, ?_⟩) trivial ?_
    · rintro w6 s1
      go_simp
    simp only [Act.put, List.setIfInBounds_toArray, List.set_cons_zero, List.set_cons_succ, List.getElem_toArray, List.getElem_cons_zero, List.getElem_cons_succ]
    refine wpAnyH_take (i := 7) (v := .int .i64 0) rfl (by kernel_rfl) (by kernel_rfl) (by kernel_rfl) (fun _ _ _ h => h) (Or.inl ⟨by rfl, ?_⟩) trivial ?_
    · rintro w6 s1
      go_simp
    simp only [Act.put, List.setIfInBounds_toArray, List.set_cons_zero, List.set_cons_succ, List.getElem_toArray, List.getElem_cons_zero, List.getElem_cons_succ]
    refine wpAnyH_take (i := 8) (v := .bool true) rfl (by kernel_rfl) (by kernel_rfl) (by kernel_rfl) (fun _ _ _ h => h) (Or.inl ⟨by rfl, ?_⟩) trivial ?_
    · rintro w6 s1
      go_simp
    simp only [Act.put, List.setIfInBounds_toArray, List.set_cons_zero, List.set_cons_succ, List.getElem_toArray, List.getElem_cons_zero, List.getElem_cons_succ]
    refine wpAnyH_take (i := 9) (v := .bool true) rfl (by kernel_rfl) (by kernel_rfl) (by kernel_rfl) (fun _ _ _ h => h) (Or.inl ⟨by rfl, ?_⟩) trivial ?_
    · rintro w6 s1
      go_simp
    simp only [Act.put, List.setIfInBounds_toArray, List.set_cons_zero, List.set_cons_succ, List.getElem_toArray, List.getElem_cons_zero, List.getElem_cons_succ]
    refine wpAnyH_take (i := 10) (v := .bool true) rfl (by kernel_rfl) (by kernel_rfl) (by kernel_rfl) (fun _ _ _ h => h) (Or.inl ⟨by rfl, ?_⟩) trivial ?_
    · rintro w6 s1
      go_simp
    simp only [Act.put, List.setIfInBounds_toArray, List.set_cons_zero, List.set_cons_succ, List.getElem_toArray, List.getElem_cons_zero, List.getElem_cons_succ]
    refine wpAnyH_take (i := 11) (v := .bool true) rfl (by kernel_rfl) (by kernel_rfl) (by kernel_rfl) (fun _ _ _ h => h) (Or.inl ⟨by rfl, ?_⟩) trivial ?_
    · rintro w6 s1
      go_simp
    simp only [Act.put, List.setIfInBounds_toArray, List.set_cons_zero, List.set_cons_succ, List.getElem_toArray, List.getElem_cons_zero, List.getElem_cons_succ]
    refine wpAnyH_take (i := 12) (v := .bool true) rfl (by kernel_rfl) (by kernel_rfl) (by kernel_rfl) (fun _ _ _ h => h) (Or.inl ⟨by rfl, ?_⟩) trivial ?_
    · rintro w6 s1
      go_simp
    simp only [Act.put, List.setIfInBounds_toArray, List.set_cons_zero, List.set_cons_succ, List.getElem_toArray, List.getElem_cons_zero, List.getElem_cons_succ]
    refine wpAnyH_take (i := 13) (v := .slice A5 (c + 1) c5) rfl (by kernel_rfl) (by kernel_rfl) (by kernel_rfl) (fun _ _ _ h => h) (Or.inl ⟨by rfl, ?_⟩) trivial ?_
    · rintro w6 s1
      go_simp
    simp only [Act.put, List.setIfInBounds_toArray, List.set_cons_zero, List.set_cons_succ, List.getElem_toArray, List.getElem_cons_zero, List.getElem_cons_succ]
    refine wpAnyH_take (i := 15) (v := .slice A c c) rfl (by kernel_rfl) (by kernel_rfl) (by kernel_rfl) (fun _ _ _ h => h) (Or.inl ⟨by rfl, ?_⟩) trivial ?_
    · rintro w6 s1
      go_simp
    simp only [Act.put, List.setIfInBounds_toArray, List.set_cons_zero, List.set_cons_succ, List.getElem_toArray, List.getElem_cons_zero, List.getElem_cons_succ]
    refine wpAnyH_take (i := 17) (v := .slice B m d) rfl (by kernel_rfl) (by kernel_rfl) (by kernel_rfl) (fun _ _ _ h => h) (Or.inl ⟨by rfl, ?_⟩) trivial ?_
    · rintro w6 s1
      go_simp
    simp only [Act.put, List.setIfInBounds_toArray, List.set_cons_zero, List.set_cons_succ, List.getElem_toArray, List.getElem_cons_zero, List.getElem_cons_succ]
    refine wpAnyH_take (i := 18) (v := .int .i64 (m : Int)) rfl (by kernel_rfl) (by kernel_rfl) (by kernel_rfl) (fun _ _ _ h => h) (Or.inl ⟨by rfl, ?_⟩) trivial ?_
    · rintro w6 s1
      go_simp
    simp only [Act.put, List.setIfInBounds_toArray, List.set_cons_zero, List.set_cons_succ, List.getElem_toArray, List.getElem_cons_zero, List.getElem_cons_succ]
    refine wpAnyH_ready (rs := [14]) (by kernel_rfl) (by simp) ?_
    refine AllReadyH.cons rfl (fun K5 hK5 => ?_) AllReadyH.nil
    go_simp
    go_at_call 13
    (with_reducible refine (HZM.out _ _ _ (C6.out.below (Below.refl _ w6).drew)).mono ?_)
    rintro e wz ⟨rfl, rfl⟩
    refine hK5.out _ _ trivial (fun _ => ?_)
    clear hK5 K5
    refine wpAnyH_ready (rs := [16]) (by kernel_rfl) (by simp) ?_
    refine AllReadyH.cons rfl (fun K5 hK5 => ?_) AllReadyH.nil
    go_simp
    go_at_call 13
    (with_reducible refine (HZ.out _ BD).mono ?_)
    rintro e wz ⟨rfl, rfl⟩
    refine hK5.out _ _ trivial (fun _ => ?_)
    clear hK5 K5
    refine wpAnyH_take (i := 19) (v := .int .i64 ((z : Int) + (m : Int))) rfl (by kernel_rfl) (by kernel_rfl) (by kernel_rfl) (fun _ _ _ h => h) (Or.inl ⟨by rfl, ?_⟩) trivial ?_
    · rintro w6 s1
      go_simp
    simp only [Act.put, List.setIfInBounds_toArray, List.set_cons_zero, List.set_cons_succ, List.getElem_toArray, List.getElem_cons_zero, List.getElem_cons_succ]
    refine wpAnyH_take (i := 20) (v := .int .i64 ((z : Int) + (m : Int) + 1)) rfl (by kernel_rfl) (by kernel_rfl) (by kernel_rfl) (fun _ _ _ h => h) (Or.inl ⟨by rfl, ?_⟩) trivial ?_
    · rintro w6 s1
      go_simp
    simp only [Act.put, List.setIfInBounds_toArray, List.set_cons_zero, List.set_cons_succ, List.getElem_toArray, List.getElem_cons_zero, List.getElem_cons_succ]
    refine wpAnyH_take (i := 21) (v := .bool true) rfl (by kernel_rfl) (by kernel_rfl) (by kernel_rfl) (fun _ _ _ h => h) (Or.inl ⟨by rfl, ?_⟩) trivial ?_
    · rintro w6 s1
      go_simp
    simp only [Act.put, List.setIfInBounds_toArray, List.set_cons_zero, List.set_cons_succ, List.getElem_toArray, List.getElem_cons_zero, List.getElem_cons_succ]
    refine wpAnyH_take (i := 22) (v := .bool true) rfl (by kernel_rfl) (by kernel_rfl) (by kernel_rfl) (fun _ _ _ h => h) (Or.inl ⟨by rfl, ?_⟩) trivial ?_
    · rintro w6 s1
      go_simp
    simp only [Act.put, List.setIfInBounds_toArray, List.set_cons_zero, List.set_cons_succ, List.getElem_toArray, List.getElem_cons_zero, List.getElem_cons_succ]
    refine wpAnyH_take (i := 23) (v := .bool true) rfl (by kernel_rfl) (by kernel_rfl) (by kernel_rfl) (fun _ _ _ h => h) (Or.inl ⟨by rfl, ?_⟩) trivial ?_
    · rintro w6 s1
      go_simp
    simp only [Act.put, List.setIfInBounds_toArray, List.set_cons_zero, List.set_cons_succ, List.getElem_toArray, List.getElem_cons_zero, List.getElem_cons_succ]
    refine wpAnyH_take (i := 24) (v := .slice A c c) rfl (by kernel_rfl) (by kernel_rfl) (by kernel_rfl) (fun _ _ _ h => h) (Or.inl ⟨by rfl, ?_⟩) trivial ?_
    · rintro w6 s1
      go_simp
    simp only [Act.put, List.setIfInBounds_toArray, List.set_cons_zero, List.set_cons_succ, List.getElem_toArray, List.getElem_cons_zero, List.getElem_cons_succ]
    refine wpAnyH_take (i := 25) (v := .int .i64 (c : Int)) rfl (by kernel_rfl) (by kernel_rfl) (by kernel_rfl) (fun _ _ _ h => h) (Or.inl ⟨by rfl, ?_⟩) trivial ?_
    · rintro w6 s1
      go_simp
    simp only [Act.put, List.setIfInBounds_toArray, List.set_cons_zero, List.set_cons_succ, List.getElem_toArray, List.getElem_cons_zero, List.getElem_cons_succ]
    refine wpAnyH_take (i := 26) (v := .slice A c c) rfl (by kernel_rfl) (by kernel_rfl) (by kernel_rfl) (fun _ _ _ h => h) (Or.inl ⟨by rfl, ?_⟩) trivial ?_
    · rintro w6 s1
      go_simp
    simp only [Act.put, List.setIfInBounds_toArray, List.set_cons_zero, List.set_cons_succ, List.getElem_toArray, List.getElem_cons_zero, List.getElem_cons_succ]
    refine wpAnyH_take (i := 28) (v := .slice A c c) rfl (by kernel_rfl) (by kernel_rfl) (by kernel_rfl) (fun _ _ _ h => h) (Or.inl ⟨by rfl, ?_⟩) trivial ?_
    · rintro w6 s1
      go_simp
    simp only [Act.put, List.setIfInBounds_toArray, List.set_cons_zero, List.set_cons_succ, List.getElem_toArray, List.getElem_cons_zero, List.getElem_cons_succ]
    refine wpAnyH_take (i := 29) (v := .int .i64 (c : Int)) rfl (by kernel_rfl) (by kernel_rfl) (by kernel_rfl) (fun _ _ _ h => h) (Or.inl ⟨by rfl, ?_⟩) trivial ?_
    · rintro w6 s1
      go_simp
    simp only [Act.put, List.setIfInBounds_toArray, List.set_cons_zero, List.set_cons_succ, List.getElem_toArray, List.getElem_cons_zero, List.getElem_cons_succ]
    refine wpAnyH_take (i := 30) (v := .slice A 0 0) rfl (by kernel_rfl) (by kernel_rfl) (by kernel_rfl) (fun _ _ _ h => h) (Or.inl ⟨by rfl, ?_⟩) trivial ?_
    · rintro w6 s1
      go_simp
    simp only [Act.put, List.setIfInBounds_toArray, List.set_cons_zero, List.set_cons_succ, List.getElem_toArray, List.getElem_cons_zero, List.getElem_cons_succ]
    refine wpAnyH_take (i := 33) (v := .slice A c c) rfl (by kernel_rfl) (by kernel_rfl) (by kernel_rfl) (fun _ _ _ h => h) (Or.inl ⟨by rfl, ?_⟩) trivial ?_
    · rintro w6 s1
      go_simp
    simp only [Act.put, List.setIfInBounds_toArray, List.set_cons_zero, List.set_cons_succ, List.getElem_toArray, List.getElem_cons_zero, List.getElem_cons_succ]
    refine wpAnyH_ready (rs := [27]) (by kernel_rfl) (by simp) ?_
    refine AllReadyH.cons rfl (fun K5 hK5 => ?_) AllReadyH.nil
    go_simp
    go_at_call 13
    (with_reducible refine (HZK.out _ BD).mono ?_)
    rintro e wz ⟨rfl, rfl⟩
    refine hK5.out _ _ trivial (fun _ => ?_)
    clear hK5 K5
    refine wpAnyH_ready (rs := [31]) (by kernel_rfl) (by simp) ?_
    refine AllReadyH.cons rfl (fun K5 hK5 => ?_) AllReadyH.nil
    go_simp
    go_at_call 13
    (with_reducible refine (HZD.out _ BD).mono ?_)
    rintro e wz ⟨rfl, rfl⟩
    refine hK5.out _ _ trivial (fun _ => ?_)
    clear hK5 K5
    refine wpAnyH_take (i := 32) (v := .int .i64 (z : Int)) rfl (by kernel_rfl) (by kernel_rfl) (by kernel_rfl) (fun _ _ _ h => h) (Or.inl ⟨by rfl, ?_⟩) trivial ?_
    · rintro w6 s1
      go_simp
    simp only [Act.put, List.setIfInBounds_toArray, List.set_cons_zero, List.set_cons_succ, List.getElem_toArray, List.getElem_cons_zero, List.getElem_cons_succ]
    refine wpAnyH_ready (rs := [34]) (by kernel_rfl) (by simp) ?_
    refine AllReadyH.cons rfl (fun K5 hK5 => ?_) AllReadyH.nil
    go_simp
    go_at_call 13
    (with_reducible refine (HZ.out _ BD).mono ?_)
    rintro e wz ⟨rfl, rfl⟩
    refine hK5.out _ _ trivial (fun _ => ?_)
    clear hK5 K5
    refine wpAnyH_take (i := 35) (v := .bool true) rfl (by kernel_rfl) (by kernel_rfl) (by kernel_rfl) (fun _ _ _ h => h) (Or.inl ⟨by rfl, ?_⟩) trivial ?_
    · rintro w6 s1
      go_simp
    simp only [Act.put, List.setIfInBounds_toArray, List.set_cons_zero, List.set_cons_succ, List.getElem_toArray, List.getElem_cons_zero, List.getElem_cons_succ]
    refine wpAnyH_take (i := 36) (v := .bool true) rfl (by kernel_rfl) (by kernel_rfl) (by kernel_rfl) (fun _ _ _ h => h) (Or.inl ⟨by rfl, ?_⟩) trivial ?_
    · rintro w6 s1
      go_simp
    simp only [Act.put, List.setIfInBounds_toArray, List.set_cons_zero, List.set_cons_succ, List.getElem_toArray, List.getElem_cons_zero, List.getElem_cons_succ]
    refine wpAnyH_take (i := 37) (v := .bool true) rfl (by kernel_rfl) (by kernel_rfl) (by kernel_rfl) (fun _ _ _ h => h) (Or.inl ⟨by rfl, ?_⟩) trivial ?_
    · rintro w6 s1
      go_simp
    simp only [Act.put, List.setIfInBounds_toArray, List.set_cons_zero, List.set_cons_succ, List.getElem_toArray, List.getElem_cons_zero, List.getElem_cons_succ]
    refine wpAnyH_done (by kernel_rfl) ?_ _
    refine hK _ _ ?_
    go_wp2
    go_ret
    exact ⟨rfl, BD⟩
  · rw [if_neg hck] at HZD
    go_enter Tryd.func6, Tryd.ntmps6
    go_wp2_with (first
      | (rw [hkk])
      | (go_at_call 8; (with_reducible refine (awake07_any _ HT.out).mono ?_); rintro e w0 ⟨rfl, h0⟩; have B0 := Lib.hid h0; clear h0)
      | (go_at_call 9; (with_reducible refine (HSM.out _ B0.out).mono ?_); rintro e w1 ⟨rfl, rfl⟩)
      | (go_at_call 10; (with_reducible refine (HP.out _ B0.out).mono ?_); rintro e w2 ⟨A2, n2, c2, rfl, b2⟩; have B2 := Lib.hid (below_step B0.out b2); clear b2)
      | (go_at_call 10; (with_reducible refine (HPK.out _ B2.out).mono ?_); rintro e w3 ⟨A3, n3, c3, rfl, b3⟩; have B3 := Lib.hid (below_step B2.out b3); clear b3)
      | (at_builtin; refine wpList_append_cells rfl (.tmp 48) (.tmp 49) 22 rfl w3.heap.size 25 j0 Tryd.underlying22 hj jz0 jz1 jz2 (.slice none 0 0) 0 [] rfl (by_own_nil _ _) A n c q rfl (HA.out.below B3.out) (by omega) (Nat.le_refl _) ?_; intro v4 w4 h1 h2; rw [Nat.zero_add, List.nil_append] at h1; have O4 := Lib.hid h1; have B4 := Lib.hid h2; clear h1 h2)
      | (at_builtin; refine wpList_append_one rfl (.tmp 51) (.tmp 53) 22 25 rfl w3.heap.size 25 j0 (.slice none 0 0) 24 Tryd.underlying22 hj jz0 jz1 jz2 rfl v4 n (q.map Hd.v) rfl O4.out (.slice B m d) rfl rfl ?_ ?_ ?_ ?_; (omega); (unfold maxLen; omega); (exact B4.out.size); intro v5 w5 h1 h2; have B5 := Lib.hid (below_step B3.out (B4.out.trans h2)); obtain ⟨A5, c5, rfl, hC5⟩ := CellsA.of_own (q := q ++ [⟨B, m, d, l⟩]) (by rw [hd_snoc]; exact h1) (HXS.out _ B5.out); have C5 := Lib.hid hC5; clear h1 h2 hC5)
      | (go_at_call 10; (with_reducible refine (HPM.out _ _ _ B5.out C5.out).mono ?_); rintro e w6 ⟨A6, n6, c6, rfl, b6⟩; have C6 := Lib.hid (C5.out.below b6); have B6 := Lib.hid (below_step B5.out b6); clear b6)
      | (go_at_call 13; (with_reducible refine (HZ.out _ B6.out).mono ?_); rintro e w7 ⟨rfl, rfl⟩))
    have BD := B6.out.drew
    have hw1 := IntWalk.i64_in ((z : Int) + (m : Int)) (by omega)
    have hw2 := IntWalk.i64_in ((z : Int) + (m : Int) + 1) (by omega)
    have hw3 := IntWalk.i64_in (z : Int) (by omega)
    rename_i K hK
    refine wp_held (fun w' : World => True) K hmx ?_ (fun _ _ h => h)
    refine wpAnyH_take (i := 0) (v := .int .i64 0) rfl (by kernel_rfl) (by kernel_rfl) (by kernel_rfl) (fun _ _ _ h => h) (Or.inl ⟨by rfl, ?_⟩) trivial ?_
    · rintro w6 s1
      go_simp
    simp only [Act.put, List.setIfInBounds_toArray, List.set_cons_zero, List.set_cons_succ, List.getElem_toArray, List.getElem_cons_zero]
    refine wpAnyH_take (i := 1) (v := .bool false) rfl (by kernel_rfl) (by kernel_rfl) (by kernel_rfl) (fun _ _ _ h => h) (Or.inl ⟨by rfl, ?_⟩) trivial ?_
    · rintro w6 s1
      go_simp
    simp only [Act.put, List.setIfInBounds_toArray, List.set_cons_zero, List.set_cons_succ, List.getElem_toArray, List.getElem_cons_zero, List.getElem_cons_succ]
    refine wpAnyH_take (i := 2) (v := .bool false) rfl (by kernel_rfl) (by kernel_rfl) (by kernel_rfl) (fun _ _ _ h => h) (Or.inl ⟨by rfl, ?_⟩) trivial ?_
    · rintro w6 s1
      go_simp
    simp only [Act.put, List.setIfInBounds_toArray, List.set_cons_zero, List.set_cons_succ, List.getElem_toArray, List.getElem_cons_zero, List.getElem_cons_succ]
    refine wpAnyH_take (i := 3) (v := .int .i64 0) rfl (by kernel_rfl) (by kernel_rfl) (by kernel_rfl) (fun _ _ _ h => h) (Or.inl ⟨by rfl, ?_⟩) trivial ?_
    · rintro w6 s1
      go_simp
    simp only [Act.put, List.setIfInBounds_toArray, List.set_cons_zero, List.set_cons_succ, List.getElem_toArray, List.getElem_cons_zero, List.getElem_cons_succ]
    refine wpAnyH_take (i := 4) (v := .bool true) rfl (by kernel_rfl) (by kernel_rfl) (by kernel_rfl) (fun _ _ _ h => h) (Or.inl ⟨by rfl, ?_⟩) trivial ?_
    · rintro w6 s1
      go_simp
    simp only [Act.put, List.setIfInBounds_toArray, List.set_cons_zero, List.set_cons_succ, List.getElem_toArray, List.getElem_cons_zero, List.getElem_cons_succ]
    refine wpAnyH_take (i := 5) (v := .bool true) rfl (by kernel_rfl) (by kernel_rfl) (by kernel_rfl) (fun _ _ _ h => h) (Or.inl ⟨by rfl, ?_⟩) trivial ?_
    · rintro w6 s1
      go_simp
    simp only [Act.put, List.setIfInBounds_toArray, List.set_cons_zero, List.set_cons_succ, List.getElem_toArray, List.getElem_cons_zero, List.getElem_cons_succ]
    refine wpAnyH_take (i := 6) (v := .bool true) rfl (by kernel_rfl) (by kernel_rfl) (by kernel_rfl) (fun _ _ _ h => h) (Or.inl ⟨by rfl, ?_⟩) trivial ?_
    · rintro w6 s1
      go_simp
    simp only [Act.put, List.setIfInBounds_toArray, List.set_cons_zero, List.set_cons_succ, List.getElem_toArray, List.getElem_cons_zero, List.getElem_cons_succ]
    refine wpAnyH_take (i := 7) (v := .int .i64 0) rfl (by kernel_rfl) (by kernel_rfl) (by kernel_rfl) (fun _ _ _ h => h) (Or.inl ⟨by rfl, ?_⟩) trivial ?_
    · rintro w6 s1
      go_simp
    simp only [Act.put, List.setIfInBounds_toArray, List.set_cons_zero, List.set_cons_succ, List.getElem_toArray, List.getElem_cons_zero, List.getElem_cons_succ]
    refine wpAnyH_take (i := 8) (v := .bool true) rfl (by kernel_rfl) (by kernel_rfl) (by kernel_rfl) (fun _ _ _ h => h) (Or.inl ⟨by rfl, ?_⟩) trivial ?_
    · rintro w6 s1
      go_simp
    simp only [Act.put, List.setIfInBounds_toArray, List.set_cons_zero, List.set_cons_succ, List.getElem_toArray, List.getElem_cons_zero, List.getElem_cons_succ]
    refine wpAnyH_take (i := 9) (v := .bool true) rfl (by kernel_rfl) (by kernel_rfl) (by kernel_rfl) (fun _ _ _ h => h) (Or.inl ⟨by rfl, ?_⟩) trivial ?_
    · rintro w6 s1
      go_simp
    simp only [Act.put, List.setIfInBounds_toArray, List.set_cons_zero, List.set_cons_succ, List.getElem_toArray, List.getElem_cons_zero, List.getElem_cons_succ]
    refine wpAnyH_take (i := 10) (v := .bool true) rfl (by kernel_rfl) (by kernel_rfl) (by kernel_rfl) (fun _ _ _ h => h) (Or.inl ⟨by rfl, ?_⟩) trivial ?_
    · rintro w6 s1
      go_simp
    simp only [Act.put, List.setIfInBounds_toArray, List.set_cons_zero, List.set_cons_succ, List.getElem_toArray, List.getElem_cons_zero, List.getElem_cons_succ]
    refine wpAnyH_take (i := 11) (v := .bool true) rfl (by kernel_rfl) (by kernel_rfl) (by kernel_rfl) (fun _ _ _ h => h) (Or.inl ⟨by rfl, ?_⟩) trivial ?_
    · rintro w6 s1
      go_simp
    simp only [Act.put, List.setIfInBounds_toArray, List.set_cons_zero, List.set_cons_succ, List.getElem_toArray, List.getElem_cons_zero, List.getElem_cons_succ]
    refine wpAnyH_take (i := 12) (v := .bool true) rfl (by kernel_rfl) (by kernel_rfl) (by kernel_rfl) (fun _ _ _ h => h) (Or.inl ⟨by rfl, ?_⟩) trivial ?_
    · rintro w6 s1
      go_simp
    simp only [Act.put, List.setIfInBounds_toArray, List.set_cons_zero, List.set_cons_succ, List.getElem_toArray, List.getElem_cons_zero, List.getElem_cons_succ]
    refine wpAnyH_take (i := 13) (v := .slice A5 (n + 1) c5) rfl (by kernel_rfl) (by kernel_rfl) (by kernel_rfl) (fun _ _ _ h => h) (Or.inl ⟨by rfl, ?_⟩) trivial ?_
    · rintro w6 s1
      go_simp
    simp only [Act.put, List.setIfInBounds_toArray, List.set_cons_zero, List.set_cons_succ, List.getElem_toArray, List.getElem_cons_zero, List.getElem_cons_succ]
    refine wpAnyH_take (i := 15) (v := .slice A n c) rfl (by kernel_rfl) (by kernel_rfl) (by kernel_rfl) (fun _ _ _ h => h) (Or.inl ⟨by rfl, ?_⟩) trivial ?_
    · rintro w6 s1
      go_simp
    simp only [Act.put, List.setIfInBounds_toArray, List.set_cons_zero, List.set_cons_succ, List.getElem_toArray, List.getElem_cons_zero, List.getElem_cons_succ]
    refine wpAnyH_take (i := 17) (v := .slice B m d) rfl (by kernel_rfl) (by kernel_rfl) (by kernel_rfl) (fun _ _ _ h => h) (Or.inl ⟨by rfl, ?_⟩) trivial ?_
    · rintro w6 s1
      go_simp
    simp only [Act.put, List.setIfInBounds_toArray, List.set_cons_zero, List.set_cons_succ, List.getElem_toArray, List.getElem_cons_zero, List.getElem_cons_succ]
    refine wpAnyH_take (i := 18) (v := .int .i64 (m : Int)) rfl (by kernel_rfl) (by kernel_rfl) (by kernel_rfl) (fun _ _ _ h => h) (Or.inl ⟨by rfl, ?_⟩) trivial ?_
    · rintro w6 s1
      go_simp
    simp only [Act.put, List.setIfInBounds_toArray, List.set_cons_zero, List.set_cons_succ, List.getElem_toArray, List.getElem_cons_zero, List.getElem_cons_succ]
    refine wpAnyH_ready (rs := [14]) (by kernel_rfl) (by simp) ?_
    refine AllReadyH.cons rfl (fun K5 hK5 => ?_) AllReadyH.nil
    go_simp
    go_at_call 13
    (with_reducible refine (HZM.out _ _ _ (C6.out.below (Below.refl _ w6).drew)).mono ?_)
    rintro e wz ⟨rfl, rfl⟩
    refine hK5.out _ _ trivial (fun _ => ?_)
    clear hK5 K5
    refine wpAnyH_ready (rs := [16]) (by kernel_rfl) (by simp) ?_
    refine AllReadyH.cons rfl (fun K5 hK5 => ?_) AllReadyH.nil
    go_simp
    go_at_call 13
    (with_reducible refine (HZ.out _ BD).mono ?_)
    rintro e wz ⟨rfl, rfl⟩
    refine hK5.out _ _ trivial (fun _ => ?_)
    clear hK5 K5
    refine wpAnyH_take (i := 19) (v := .int .i64 ((z : Int) + (m : Int))) rfl (by kernel_rfl) (by kernel_rfl) (by kernel_rfl) (fun _ _ _ h => h) (Or.inl ⟨by rfl, ?_⟩) trivial ?_
    · rintro w6 s1
      go_simp
    simp only [Act.put, List.setIfInBounds_toArray, List.set_cons_zero, List.set_cons_succ, List.getElem_toArray, List.getElem_cons_zero, List.getElem_cons_succ]
    refine wpAnyH_take (i := 20) (v := .int .i64 ((z : Int) + (m : Int) + 1)) rfl (by kernel_rfl) (by kernel_rfl) (by kernel_rfl) (fun _ _ _ h => h) (Or.inl ⟨by rfl, ?_⟩) trivial ?_
    · rintro w6 s1
      go_simp
    simp only [Act.put, List.setIfInBounds_toArray, List.set_cons_zero, List.set_cons_succ, List.getElem_toArray, List.getElem_cons_zero, List.getElem_cons_succ]
    refine wpAnyH_take (i := 21) (v := .bool true) rfl (by kernel_rfl) (by kernel_rfl) (by kernel_rfl) (fun _ _ _ h => h) (Or.inl ⟨by rfl, ?_⟩) trivial ?_
    · rintro w6 s1
      go_simp
    simp only [Act.put, List.setIfInBounds_toArray, List.set_cons_zero, List.set_cons_succ, List.getElem_toArray, List.getElem_cons_zero, List.getElem_cons_succ]
    refine wpAnyH_take (i := 22) (v := .bool true) rfl (by kernel_rfl) (by kernel_rfl) (by kernel_rfl) (fun _ _ _ h => h) (Or.inl ⟨by rfl, ?_⟩) trivial ?_
    · rintro w6 s1
      go_simp
    simp only [Act.put, List.setIfInBounds_toArray, List.set_cons_zero, List.set_cons_succ, List.getElem_toArray, List.getElem_cons_zero, List.getElem_cons_succ]
    refine wpAnyH_take (i := 23) (v := .bool true) rfl (by kernel_rfl) (by kernel_rfl) (by kernel_rfl) (fun _ _ _ h => h) (Or.inl ⟨by rfl, ?_⟩) trivial ?_
    · rintro w6 s1
      go_simp
    simp only [Act.put, List.setIfInBounds_toArray, List.set_cons_zero, List.set_cons_succ, List.getElem_toArray, List.getElem_cons_zero, List.getElem_cons_succ]
    refine wpAnyH_take (i := 24) (v := .slice A n c) rfl (by kernel_rfl) (by kernel_rfl) (by kernel_rfl) (fun _ _ _ h => h) (Or.inl ⟨by rfl, ?_⟩) trivial ?_
    · rintro w6 s1
      go_simp
    simp only [Act.put, List.setIfInBounds_toArray, List.set_cons_zero, List.set_cons_succ, List.getElem_toArray, List.getElem_cons_zero, List.getElem_cons_succ]
    refine wpAnyH_take (i := 25) (v := .int .i64 (k : Int)) rfl (by kernel_rfl) (by kernel_rfl) (by kernel_rfl) (fun _ _ _ h => h) (Or.inl ⟨by rfl, ?_⟩) trivial ?_
    · rintro w6 s1
      go_simp
    simp only [Act.put, List.setIfInBounds_toArray, List.set_cons_zero, List.set_cons_succ, List.getElem_toArray, List.getElem_cons_zero, List.getElem_cons_succ]
    refine wpAnyH_take (i := 26) (v := .slice A k c) rfl (by kernel_rfl) (by kernel_rfl) (by kernel_rfl) (fun _ _ _ h => h) (Or.inl ⟨by rfl, ?_⟩) trivial ?_
    · rintro w6 s1
      go_simp
    simp only [Act.put, List.setIfInBounds_toArray, List.set_cons_zero, List.set_cons_succ, List.getElem_toArray, List.getElem_cons_zero, List.getElem_cons_succ]
    refine wpAnyH_take (i := 28) (v := .slice A n c) rfl (by kernel_rfl) (by kernel_rfl) (by kernel_rfl) (fun _ _ _ h => h) (Or.inl ⟨by rfl, ?_⟩) trivial ?_
    · rintro w6 s1
      go_simp
    simp only [Act.put, List.setIfInBounds_toArray, List.set_cons_zero, List.set_cons_succ, List.getElem_toArray, List.getElem_cons_zero, List.getElem_cons_succ]
    refine wpAnyH_take (i := 29) (v := .int .i64 (k : Int)) rfl (by kernel_rfl) (by kernel_rfl) (by kernel_rfl) (fun _ _ _ h => h) (Or.inl ⟨by rfl, ?_⟩) trivial ?_
    · rintro w6 s1
      go_simp
    simp only [Act.put, List.setIfInBounds_toArray, List.set_cons_zero, List.set_cons_succ, List.getElem_toArray, List.getElem_cons_zero, List.getElem_cons_succ]
    refine wpAnyH_take (i := 30) (v := .slice (A.map (·.add k)) (n - k) (c - k)) rfl (by kernel_rfl) (by kernel_rfl) (by kernel_rfl) (fun _ _ _ h => h) (Or.inl ⟨by rfl, ?_⟩) trivial ?_
    · rintro w6 s1
      go_simp
    simp only [Act.put, List.setIfInBounds_toArray, List.set_cons_zero, List.set_cons_succ, List.getElem_toArray, List.getElem_cons_zero, List.getElem_cons_succ]
    refine wpAnyH_take (i := 33) (v := .slice A n c) rfl (by kernel_rfl) (by kernel_rfl) (by kernel_rfl) (fun _ _ _ h => h) (Or.inl ⟨by rfl, ?_⟩) trivial ?_
    · rintro w6 s1
      go_simp
    simp only [Act.put, List.setIfInBounds_toArray, List.set_cons_zero, List.set_cons_succ, List.getElem_toArray, List.getElem_cons_zero, List.getElem_cons_succ]
    refine wpAnyH_ready (rs := [27]) (by kernel_rfl) (by simp) ?_
    refine AllReadyH.cons rfl (fun K5 hK5 => ?_) AllReadyH.nil
    go_simp
    go_at_call 13
    (with_reducible refine (HZK.out _ BD).mono ?_)
    rintro e wz ⟨rfl, rfl⟩
    refine hK5.out _ _ trivial (fun _ => ?_)
    clear hK5 K5
    refine wpAnyH_ready (rs := [31]) (by kernel_rfl) (by simp) ?_
    refine AllReadyH.cons rfl (fun K5 hK5 => ?_) AllReadyH.nil
    go_simp
    go_at_call 13
    (with_reducible refine (HZD.out _ BD).mono ?_)
    rintro e wz ⟨rfl, rfl⟩
    refine hK5.out _ _ trivial (fun _ => ?_)
    clear hK5 K5
    refine wpAnyH_take (i := 32) (v := .int .i64 (z : Int)) rfl (by kernel_rfl) (by kernel_rfl) (by kernel_rfl) (fun _ _ _ h => h) (Or.inl ⟨by rfl, ?_⟩) trivial ?_
    · rintro w6 s1
      go_simp
    simp only [Act.put, List.setIfInBounds_toArray, List.set_cons_zero, List.set_cons_succ, List.getElem_toArray, List.getElem_cons_zero, List.getElem_cons_succ]
    refine wpAnyH_ready (rs := [34]) (by kernel_rfl) (by simp) ?_
    refine AllReadyH.cons rfl (fun K5 hK5 => ?_) AllReadyH.nil
    go_simp
    go_at_call 13
    (with_reducible refine (HZ.out _ BD).mono ?_)
    rintro e wz ⟨rfl, rfl⟩
    refine hK5.out _ _ trivial (fun _ => ?_)
    clear hK5 K5
    refine wpAnyH_take (i := 35) (v := .bool true) rfl (by kernel_rfl) (by kernel_rfl) (by kernel_rfl) (fun _ _ _ h => h) (Or.inl ⟨by rfl, ?_⟩) trivial ?_
    · rintro w6 s1
      go_simp
    simp only [Act.put, List.setIfInBounds_toArray, List.set_cons_zero, List.set_cons_succ, List.getElem_toArray, List.getElem_cons_zero, List.getElem_cons_succ]
    refine wpAnyH_take (i := 36) (v := .bool true) rfl (by kernel_rfl) (by kernel_rfl) (by kernel_rfl) (fun _ _ _ h => h) (Or.inl ⟨by rfl, ?_⟩) trivial ?_
    · rintro w6 s1
      go_simp
    simp only [Act.put, List.setIfInBounds_toArray, List.set_cons_zero, List.set_cons_succ, List.getElem_toArray, List.getElem_cons_zero, List.getElem_cons_succ]
    refine wpAnyH_take (i := 37) (v := .bool true) rfl (by kernel_rfl) (by kernel_rfl) (by kernel_rfl) (fun _ _ _ h => h) (Or.inl ⟨by rfl, ?_⟩) trivial ?_
    · rintro w6 s1
      go_simp
    simp only [Act.put, List.setIfInBounds_toArray, List.set_cons_zero, List.set_cons_succ, List.getElem_toArray, List.getElem_cons_zero, List.getElem_cons_succ]
    refine wpAnyH_done (by kernel_rfl) ?_ _
    refine hK _ _ ?_
    go_wp2
    go_ret
    exact ⟨rfl, BD⟩

set_option maxRecDepth 100000 in
set_option maxHeartbeats 8000000 in
theorem ceFronts_b (A B : Option Addr) (n c at_ m d : Nat) (q : List Hd) (l : List UInt8) (w : World) (ht : Tab w) (h : CellsA w A n c q) (hk : Arg w B m d l) (hs : smallB q = true) (hm : m ≤ 300) (ha : at_ < 256) (hz : ¬ cSz (lq q) + m + 1 ≤ 122) (hy : cSz (lq q) ≤ 122) :
    Calls Tryd.prog 6 #[.slice A n c, .int .u8 (at_ : Int), .slice B m d] w fun e w' => e = .returned (.bool true) ∧ Below w.heap.size w w' := by
  have hmx : Tryd.prog.follows .mixedOrders = true := by kernel_rfl
  obtain ⟨j0, hj, jz0, jz1, jz2⟩ := info_parts byinfo
  have HT := Lib.hid ht
  have HA := Lib.hid h
  have HK := Lib.hid hk
  have hf := small_few hs
  have HSM := Lib.hid (fun w1 (hb : Below w.heap.size w w1) => small07_any A n c q w1 (h.below hb))
  rw [hs] at HSM
  have HP := Lib.hid (fun w1 (hb : Below w.heap.size w w1) => cePack_er A n c q w1 (ht.below hb) (h.below hb) hf)
  have HZ := Lib.hid (fun w1 (hb : Below w.heap.size w w1) => ceSize_any A n c q w1 (h.below hb) hf)
  have hnc := h.room
  have hcm := h.most
  have hmd := hk.room
  have hdm := hk.most
  unfold maxLen at hcm hdm
  have hn3 : n ≤ 300 := by have := of_decide_eq_true hs; have := h.len; omega
  have e1 : ¬ ((300 : Int) < (m : Int)) := by omega
  obtain ⟨k, hkk, hkn⟩ : ∃ k : Nat, (at_ : Int) % ((n : Int) + 1) = (k : Int) ∧ k ≤ n := ⟨at_ % (n + 1), by simp, by have := Nat.mod_lt at_ (show 0 < n + 1 by omega); omega⟩
  have HPK := Lib.hid (fun w1 (hb : Below w.heap.size w w1) => cePack_er A k c (q.take k) w1 (HT.out.below hb) ((HA.out.below hb).take_ k hkn) (hf.take k))
  have HZK := Lib.hid (fun w1 (hb : Below w.heap.size w w1) => ceSize_any A k c (q.take k) w1 ((HA.out.below hb).take_ k hkn) (hf.take k))
  have HZD := Lib.hid (fun w1 (hb : Below w.heap.size w w1) => ceSize_any _ (n - k) (c - k) (q.drop k) w1 ((HA.out.below hb).drop_ k hkn) (hf.drop k))
  rw [lq_take] at HPK HZK
  rw [lq_drop] at HZD
  have hzs : cSz ((lq q).take k) + cSz ((lq q).drop k) = cSz (lq q) := by rw [← cSz_app, List.take_append_drop]
  have hfm : Few (q ++ [⟨B, m, d, l⟩]) := ⟨by have := hf.1; have := of_decide_eq_true hs; simp; omega, fun x hx => by
    rcases List.mem_append.1 hx with h | h
    · exact hf.2 x h
    · obtain rfl := List.mem_singleton.1 h
      have := hk.len
      show l.length ≤ 1000
      omega⟩
  have hzm : cSz (lq (q ++ [⟨B, m, d, l⟩])) = cSz (lq q) + m + 1 := by
    rw [lq_snoc, cSz_app]
    show cSz (lq q) + (l.length + 1 + 0) = _
    have := hk.len
    omega
  have HPM := Lib.hid (fun A c w1 (hb : Below w.heap.size w w1) (h : CellsA w1 A (n + 1) c (q ++ [⟨B, m, d, l⟩])) => cePack_er A (n + 1) c _ w1 (HT.out.below hb) h hfm)
  have HZM := Lib.hid (fun A c w1 (h : CellsA w1 A (n + 1) c (q ++ [⟨B, m, d, l⟩])) => ceSize_any A (n + 1) c _ w1 h hfm)
  rw [hzm] at HPM HZM
  have hz3 := hf.size
  have HXS := Lib.hid (fun w1 (hb : Below w.heap.size w w1) => show ∀ x ∈ q ++ [⟨B, m, d, l⟩], Arg w1 x.a x.n x.c x.l from fun x hx => by
    rcases List.mem_append.1 hx with h | h
    · exact (HA.out.below hb).each x h
    · obtain rfl := List.mem_singleton.1 h
      exact HK.out.below hb)
  have hzi : (cSz ((lq q).take k) : Int) + (cSz ((lq q).drop k) : Int) = (cSz (lq q) : Int) := by omega
  clear hzs
  have ez : errOf (cSz (lq q)) = 0 := if_pos (by omega)
  rw [ez] at HP
  have ek : errOf (cSz ((lq q).take k)) = 0 := if_pos (by omega)
  rw [ek] at HPK
  have eg : errOf (cSz (lq q) + m + 1) = 1 := if_neg (by omega)
  rw [eg] at HPM
  have hd : decide ((cSz (lq q) : Int) + (m : Int) + 1 ≤ 122) = false := decide_eq_false (by omega)
  clear ez ek eg
  have i0 : (0 : Int) ≤ (k : Int) := by omega
  have i1 : (k : Int) ≤ (c : Int) := by omega
  have i2 : (k : Int) ≤ (n : Int) := by omega
  clear ht h hk hs hf hfm hzm
  generalize cSz ((lq q).take k) = zk at *
  generalize cSz ((lq q).drop k) = zd at *
  generalize cSz (lq q) = z at *
  have hck : c = k ∨ c ≠ k := by omega
  rcases hck with hck | hck
  · rw [if_pos hck] at HZD
    obtain rfl : n = k := by omega
    obtain rfl : c = n := hck
    rw [Nat.sub_self] at HZD
    go_enter Tryd.func6, Tryd.ntmps6
    go_wp2_with (first
      | (rw [hkk])
      | (go_at_call 8; (with_reducible refine (awake07_any _ HT.out).mono ?_); rintro e w0 ⟨rfl, h0⟩; have B0 := Lib.hid h0; clear h0)
      | (go_at_call 9; (with_reducible refine (HSM.out _ B0.out).mono ?_); rintro e w1 ⟨rfl, rfl⟩)
      | (go_at_call 10; (with_reducible refine (HP.out _ B0.out).mono ?_); rintro e w2 ⟨A2, n2, c2, rfl, b2⟩; have B2 := Lib.hid (below_step B0.out b2); clear b2)
      | (go_at_call 10; (with_reducible refine (HPK.out _ B2.out).mono ?_); rintro e w3 ⟨A3, n3, c3, rfl, b3⟩; have B3 := Lib.hid (below_step B2.out b3); clear b3)
      | (at_builtin; refine wpList_append_cells rfl (.tmp 48) (.tmp 49) 22 rfl w3.heap.size 25 j0 Tryd.underlying22 hj jz0 jz1 jz2 (.slice none 0 0) 0 [] rfl (by_own_nil _ _) A c c q rfl (HA.out.below B3.out) (by omega) (Nat.le_refl _) ?_; intro v4 w4 h1 h2; rw [Nat.zero_add, List.nil_append] at h1; have O4 := Lib.hid h1; have B4 := Lib.hid h2; clear h1 h2)
      | (at_builtin; refine wpList_append_one rfl (.tmp 51) (.tmp 53) 22 25 rfl w3.heap.size 25 j0 (.slice none 0 0) 24 Tryd.underlying22 hj jz0 jz1 jz2 rfl v4 c (q.map Hd.v) rfl O4.out (.slice B m d) rfl rfl ?_ ?_ ?_ ?_; (omega); (unfold maxLen; omega); (exact B4.out.size); intro v5 w5 h1 h2; have B5 := Lib.hid (below_step B3.out (B4.out.trans h2)); obtain ⟨A5, c5, rfl, hC5⟩ := CellsA.of_own (q := q ++ [⟨B, m, d, l⟩]) (by rw [hd_snoc]; exact h1) (HXS.out _ B5.out); have C5 := Lib.hid hC5; clear h1 h2 hC5)
      | (go_at_call 10; (with_reducible refine (HPM.out _ _ _ B5.out C5.out).mono ?_); rintro e w6 ⟨A6, n6, c6, rfl, b6⟩; have C6 := Lib.hid (C5.out.below b6); have B6 := Lib.hid (below_step B5.out b6); clear b6)
      | (go_at_call 13; (with_reducible refine (HZ.out _ B6.out).mono ?_); rintro e w7 ⟨rfl, rfl⟩))
    have BD := B6.out.drew
    have hw1 := IntWalk.i64_in ((z : Int) + (m : Int)) (by omega)
    have hw2 := IntWalk.i64_in ((z : Int) + (m : Int) + 1) (by omega)
    have hw3 := IntWalk.i64_in (z : Int) (by omega)
    rename_i K hK
    refine wp_held (fun w' : World => True) K hmx ?_ (fun _ _ h => h)
    refine wpAnyH_take (i := 0) (v := .int .i64 0) rfl (by kernel_rfl) (by kernel_rfl) (by kernel_rfl) (fun _ _ _ h => h) (Or.inl ⟨by rfl, ?_⟩) trivial ?_
    · rintro w6 s1
      go_simp
    simp only [Act.put, List.setIfInBounds_toArray, List.set_cons_zero, List.set_cons_succ, List.getElem_toArray, List.getElem_cons_zero]
    refine wpAnyH_take (i := 1) (v := .bool false) rfl (by kernel_rfl) (by kernel_rfl) (by kernel_rfl) (fun _ _ _ h => h) (Or.inl ⟨by rfl, ?_⟩) trivial ?_
    · rintro w6 s1
      go_simp
    simp only [Act.put, List.setIfInBounds_toArray, List.set_cons_zero, List.set_cons_succ, List.getElem_toArray, List.getElem_cons_zero, List.getElem_cons_succ]
    refine wpAnyH_take (i := 2) (v := .bool false) rfl (by kernel_rfl) (by kernel_rfl) (by kernel_rfl) (fun _ _ _ h => h) (Or.inl ⟨by rfl, ?_⟩) trivial ?_
    · rintro w6 s1
      go_simp
    simp only [Act.put, List.setIfInBounds_toArray, List.set_cons_zero, List.set_cons_succ, List.getElem_toArray, List.getElem_cons_zero, List.getElem_cons_succ]
    refine wpAnyH_take (i := 3) (v := .int .i64 0) rfl (by kernel_rfl) (by kernel_rfl) (by kernel_rfl) (fun _ _ _ h => h) (Or.inl ⟨by rfl, ?_⟩) trivial ?_
    · rintro w6 s1
      go_simp
    simp only [Act.put, List.setIfInBounds_toArray, List.set_cons_zero, List.set_cons_succ, List.getElem_toArray, List.getElem_cons_zero, List.getElem_cons_succ]
    refine wpAnyH_take (i := 4) (v := .bool true) rfl (by kernel_rfl) (by kernel_rfl) (by kernel_rfl) (fun _ _ _ h => h) (Or.inl ⟨by rfl, ?_⟩) trivial ?_
    · rintro w6 s1
      go_simp
    simp only [Act.put, List.setIfInBounds_toArray, List.set_cons_zero, List.set_cons_succ, List.getElem_toArray, List.getElem_cons_zero, List.getElem_cons_succ]
    refine wpAnyH_take (i := 5) (v := .bool true) rfl (by kernel_rfl) (by kernel_rfl) (by kernel_rfl) (fun _ _ _ h => h) (Or.inl ⟨by rfl, ?_⟩) trivial ?_
    · rintro w6 s1
      go_simp
    simp only [Act.put, List.setIfInBounds_toArray, List.set_cons_zero, List.set_cons_succ, List.getElem_toArray, List.getElem_cons_zero, List.getElem_cons_succ]
    refine wpAnyH_take (i := 6) (v := .bool true) rfl (by kernel_rfl) (by kernel_rfl) (by kernel_rfl) (fun _ _ _ h => h) (Or.inl ⟨by rfl, ?_⟩) trivial ?_
    · rintro w6 s1
      go_simp
    simp only [Act.put, List.setIfInBounds_toArray, List.set_cons_zero, List.set_cons_succ, List.getElem_toArray, List.getElem_cons_zero, List.getElem_cons_succ]
    refine wpAnyH_take (i := 7) (v := .int .i64 1) rfl (by kernel_rfl) (by kernel_rfl) (by kernel_rfl) (fun _ _ _ h => h) (Or.inl ⟨by rfl, ?_⟩) trivial ?_
    · rintro w6 s1
      go_simp
    simp only [Act.put, List.setIfInBounds_toArray, List.set_cons_zero, List.set_cons_succ, List.getElem_toArray, List.getElem_cons_zero, List.getElem_cons_succ]
    refine wpAnyH_take (i := 8) (v := .bool false) rfl (by kernel_rfl) (by kernel_rfl) (by kernel_rfl) (fun _ _ _ h => h) (Or.inl ⟨by rfl, ?_⟩) trivial ?_
    · rintro w6 s1
      go_simp
    simp only [Act.put, List.setIfInBounds_toArray, List.set_cons_zero, List.set_cons_succ, List.getElem_toArray, List.getElem_cons_zero, List.getElem_cons_succ]
    refine wpAnyH_take (i := 9) (v := .bool false) rfl (by kernel_rfl) (by kernel_rfl) (by kernel_rfl) (fun _ _ _ h => h) (Or.inl ⟨by rfl, ?_⟩) trivial ?_
    · rintro w6 s1
      go_simp
    simp only [Act.put, List.setIfInBounds_toArray, List.set_cons_zero, List.set_cons_succ, List.getElem_toArray, List.getElem_cons_zero, List.getElem_cons_succ]
    refine wpAnyH_take (i := 10) (v := .bool true) rfl (by kernel_rfl) (by kernel_rfl) (by kernel_rfl) (fun _ _ _ h => h) (Or.inl ⟨by rfl, ?_⟩) trivial ?_
    · rintro w6 s1
      go_simp
    simp only [Act.put, List.setIfInBounds_toArray, List.set_cons_zero, List.set_cons_succ, List.getElem_toArray, List.getElem_cons_zero, List.getElem_cons_succ]
    refine wpAnyH_take (i := 11) (v := .bool true) rfl (by kernel_rfl) (by kernel_rfl) (by kernel_rfl) (fun _ _ _ h => h) (Or.inl ⟨by rfl, ?_⟩) trivial ?_
    · rintro w6 s1
      go_simp
    simp only [Act.put, List.setIfInBounds_toArray, List.set_cons_zero, List.set_cons_succ, List.getElem_toArray, List.getElem_cons_zero, List.getElem_cons_succ]
    refine wpAnyH_take (i := 12) (v := .bool true) rfl (by kernel_rfl) (by kernel_rfl) (by kernel_rfl) (fun _ _ _ h => h) (Or.inl ⟨by rfl, ?_⟩) trivial ?_
    · rintro w6 s1
      go_simp
    simp only [Act.put, List.setIfInBounds_toArray, List.set_cons_zero, List.set_cons_succ, List.getElem_toArray, List.getElem_cons_zero, List.getElem_cons_succ]
    refine wpAnyH_take (i := 13) (v := .slice A5 (c + 1) c5) rfl (by kernel_rfl) (by kernel_rfl) (by kernel_rfl) (fun _ _ _ h => h) (Or.inl ⟨by rfl, ?_⟩) trivial ?_
    · rintro w6 s1
      go_simp
    simp only [Act.put, List.setIfInBounds_toArray, List.set_cons_zero, List.set_cons_succ, List.getElem_toArray, List.getElem_cons_zero, List.getElem_cons_succ]
    refine wpAnyH_take (i := 15) (v := .slice A c c) rfl (by kernel_rfl) (by kernel_rfl) (by kernel_rfl) (fun _ _ _ h => h) (Or.inl ⟨by rfl, ?_⟩) trivial ?_
    · rintro w6 s1
      go_simp
    simp only [Act.put, List.setIfInBounds_toArray, List.set_cons_zero, List.set_cons_succ, List.getElem_toArray, List.getElem_cons_zero, List.getElem_cons_succ]
    refine wpAnyH_take (i := 17) (v := .slice B m d) rfl (by kernel_rfl) (by kernel_rfl) (by kernel_rfl) (fun _ _ _ h => h) (Or.inl ⟨by rfl, ?_⟩) trivial ?_
    · rintro w6 s1
      go_simp
    simp only [Act.put, List.setIfInBounds_toArray, List.set_cons_zero, List.set_cons_succ, List.getElem_toArray, List.getElem_cons_zero, List.getElem_cons_succ]
    refine wpAnyH_take (i := 18) (v := .int .i64 (m : Int)) rfl (by kernel_rfl) (by kernel_rfl) (by kernel_rfl) (fun _ _ _ h => h) (Or.inl ⟨by rfl, ?_⟩) trivial ?_
    · rintro w6 s1
      go_simp
    simp only [Act.put, List.setIfInBounds_toArray, List.set_cons_zero, List.set_cons_succ, List.getElem_toArray, List.getElem_cons_zero, List.getElem_cons_succ]
    refine wpAnyH_ready (rs := [14]) (by kernel_rfl) (by simp) ?_
    refine AllReadyH.cons rfl (fun K5 hK5 => ?_) AllReadyH.nil
    go_simp
    go_at_call 13
    (with_reducible refine (HZM.out _ _ _ (C6.out.below (Below.refl _ w6).drew)).mono ?_)
    rintro e wz ⟨rfl, rfl⟩
    refine hK5.out _ _ trivial (fun _ => ?_)
    clear hK5 K5
    refine wpAnyH_ready (rs := [16]) (by kernel_rfl) (by simp) ?_
    refine AllReadyH.cons rfl (fun K5 hK5 => ?_) AllReadyH.nil
    go_simp
    go_at_call 13
    (with_reducible refine (HZ.out _ BD).mono ?_)
    rintro e wz ⟨rfl, rfl⟩
    refine hK5.out _ _ trivial (fun _ => ?_)
    clear hK5 K5
    refine wpAnyH_take (i := 19) (v := .int .i64 ((z : Int) + (m : Int))) rfl (by kernel_rfl) (by kernel_rfl) (by kernel_rfl) (fun _ _ _ h => h) (Or.inl ⟨by rfl, ?_⟩) trivial ?_
    · rintro w6 s1
      go_simp
    simp only [Act.put, List.setIfInBounds_toArray, List.set_cons_zero, List.set_cons_succ, List.getElem_toArray, List.getElem_cons_zero, List.getElem_cons_succ]
    refine wpAnyH_take (i := 20) (v := .int .i64 ((z : Int) + (m : Int) + 1)) rfl (by kernel_rfl) (by kernel_rfl) (by kernel_rfl) (fun _ _ _ h => h) (Or.inl ⟨by rfl, ?_⟩) trivial ?_
    · rintro w6 s1
      go_simp
    simp only [Act.put, List.setIfInBounds_toArray, List.set_cons_zero, List.set_cons_succ, List.getElem_toArray, List.getElem_cons_zero, List.getElem_cons_succ]
    refine wpAnyH_take (i := 21) (v := .bool true) rfl (by kernel_rfl) (by kernel_rfl) (by kernel_rfl) (fun _ _ _ h => h) (Or.inl ⟨by rfl, ?_⟩) trivial ?_
    · rintro w6 s1
      go_simp
    simp only [Act.put, List.setIfInBounds_toArray, List.set_cons_zero, List.set_cons_succ, List.getElem_toArray, List.getElem_cons_zero, List.getElem_cons_succ]
    refine wpAnyH_take (i := 22) (v := .bool true) rfl (by kernel_rfl) (by kernel_rfl) (by kernel_rfl) (fun _ _ _ h => h) (Or.inl ⟨by rfl, ?_⟩) trivial ?_
    · rintro w6 s1
      go_simp
    simp only [Act.put, List.setIfInBounds_toArray, List.set_cons_zero, List.set_cons_succ, List.getElem_toArray, List.getElem_cons_zero, List.getElem_cons_succ]
    refine wpAnyH_take (i := 23) (v := .bool true) rfl (by kernel_rfl) (by kernel_rfl) (by kernel_rfl) (fun _ _ _ h => h) (Or.inl ⟨by rfl, ?_⟩) trivial ?_
    · rintro w6 s1
      go_simp
    simp only [Act.put, List.setIfInBounds_toArray, List.set_cons_zero, List.set_cons_succ, List.getElem_toArray, List.getElem_cons_zero, List.getElem_cons_succ]
    refine wpAnyH_take (i := 24) (v := .slice A c c) rfl (by kernel_rfl) (by kernel_rfl) (by kernel_rfl) (fun _ _ _ h => h) (Or.inl ⟨by rfl, ?_⟩) trivial ?_
    · rintro w6 s1
      go_simp
    simp only [Act.put, List.setIfInBounds_toArray, List.set_cons_zero, List.set_cons_succ, List.getElem_toArray, List.getElem_cons_zero, List.getElem_cons_succ]
    refine wpAnyH_take (i := 25) (v := .int .i64 (c : Int)) rfl (by kernel_rfl) (by kernel_rfl) (by kernel_rfl) (fun _ _ _ h => h) (Or.inl ⟨by rfl, ?_⟩) trivial ?_
    · rintro w6 s1
      go_simp
    simp only [Act.put, List.setIfInBounds_toArray, List.set_cons_zero, List.set_cons_succ, List.getElem_toArray, List.getElem_cons_zero, List.getElem_cons_succ]
    refine wpAnyH_take (i := 26) (v := .slice A c c) rfl (by kernel_rfl) (by kernel_rfl) (by kernel_rfl) (fun _ _ _ h => h) (Or.inl ⟨by rfl, ?_⟩) trivial ?_
    · rintro w6 s1
      go_simp
    simp only [Act.put, List.setIfInBounds_toArray, List.set_cons_zero, List.set_cons_succ, List.getElem_toArray, List.getElem_cons_zero, List.getElem_cons_succ]
    refine wpAnyH_take (i := 28) (v := .slice A c c) rfl (by kernel_rfl) (by kernel_rfl) (by kernel_rfl) (fun _ _ _ h => h) (Or.inl ⟨by rfl, ?_⟩) trivial ?_
    · rintro w6 s1
      go_simp
    simp only [Act.put, List.setIfInBounds_toArray, List.set_cons_zero, List.set_cons_succ, List.getElem_toArray, List.getElem_cons_zero, List.getElem_cons_succ]
    refine wpAnyH_take (i := 29) (v := .int .i64 (c : Int)) rfl (by kernel_rfl) (by kernel_rfl) (by kernel_rfl) (fun _ _ _ h => h) (Or.inl ⟨by rfl, ?_⟩) trivial ?_
    · rintro w6 s1
      go_simp
    simp only [Act.put, List.setIfInBounds_toArray, List.set_cons_zero, List.set_cons_succ, List.getElem_toArray, List.getElem_cons_zero, List.getElem_cons_succ]
    refine wpAnyH_take (i := 30) (v := .slice A 0 0) rfl (by kernel_rfl) (by kernel_rfl) (by kernel_rfl) (fun _ _ _ h => h) (Or.inl ⟨by rfl, ?_⟩) trivial ?_
    · rintro w6 s1
      go_simp
    simp only [Act.put, List.setIfInBounds_toArray, List.set_cons_zero, List.set_cons_succ, List.getElem_toArray, List.getElem_cons_zero, List.getElem_cons_succ]
    refine wpAnyH_take (i := 33) (v := .slice A c c) rfl (by kernel_rfl) (by kernel_rfl) (by kernel_rfl) (fun _ _ _ h => h) (Or.inl ⟨by rfl, ?_⟩) trivial ?_
    · rintro w6 s1
      go_simp
    simp only [Act.put, List.setIfInBounds_toArray, List.set_cons_zero, List.set_cons_succ, List.getElem_toArray, List.getElem_cons_zero, List.getElem_cons_succ]
    refine wpAnyH_ready (rs := [27]) (by kernel_rfl) (by simp) ?_
    refine AllReadyH.cons rfl (fun K5 hK5 => ?_) AllReadyH.nil
    go_simp
    go_at_call 13
    (with_reducible refine (HZK.out _ BD).mono ?_)
    rintro e wz ⟨rfl, rfl⟩
    refine hK5.out _ _ trivial (fun _ => ?_)
    clear hK5 K5
    refine wpAnyH_ready (rs := [31]) (by kernel_rfl) (by simp) ?_
    refine AllReadyH.cons rfl (fun K5 hK5 => ?_) AllReadyH.nil
    go_simp
    go_at_call 13
    (with_reducible refine (HZD.out _ BD).mono ?_)
    rintro e wz ⟨rfl, rfl⟩
    refine hK5.out _ _ trivial (fun _ => ?_)
    clear hK5 K5
    refine wpAnyH_take (i := 32) (v := .int .i64 (z : Int)) rfl (by kernel_rfl) (by kernel_rfl) (by kernel_rfl) (fun _ _ _ h => h) (Or.inl ⟨by rfl, ?_⟩) trivial ?_
    · rintro w6 s1
      go_simp
    simp only [Act.put, List.setIfInBounds_toArray, List.set_cons_zero, List.set_cons_succ, List.getElem_toArray, List.getElem_cons_zero, List.getElem_cons_succ]
    refine wpAnyH_ready (rs := [34]) (by kernel_rfl) (by simp) ?_
    refine AllReadyH.cons rfl (fun K5 hK5 => ?_) AllReadyH.nil
    go_simp
    go_at_call 13
    (with_reducible refine (HZ.out _ BD).mono ?_)
    rintro e wz ⟨rfl, rfl⟩
    refine hK5.out _ _ trivial (fun _ => ?_)
    clear hK5 K5
    refine wpAnyH_take (i := 35) (v := .bool true) rfl (by kernel_rfl) (by kernel_rfl) (by kernel_rfl) (fun _ _ _ h => h) (Or.inl ⟨by rfl, ?_⟩) trivial ?_
    · rintro w6 s1
      go_simp
    simp only [Act.put, List.setIfInBounds_toArray, List.set_cons_zero, List.set_cons_succ, List.getElem_toArray, List.getElem_cons_zero, List.getElem_cons_succ]
    refine wpAnyH_take (i := 36) (v := .bool true) rfl (by kernel_rfl) (by kernel_rfl) (by kernel_rfl) (fun _ _ _ h => h) (Or.inl ⟨by rfl, ?_⟩) trivial ?_
    · rintro w6 s1
      go_simp
    simp only [Act.put, List.setIfInBounds_toArray, List.set_cons_zero, List.set_cons_succ, List.getElem_toArray, List.getElem_cons_zero, List.getElem_cons_succ]
    refine wpAnyH_take (i := 37) (v := .bool true) rfl (by kernel_rfl) (by kernel_rfl) (by kernel_rfl) (fun _ _ _ h => h) (Or.inl ⟨by rfl, ?_⟩) trivial ?_
    · rintro w6 s1
      go_simp
    simp only [Act.put, List.setIfInBounds_toArray, List.set_cons_zero, List.set_cons_succ, List.getElem_toArray, List.getElem_cons_zero, List.getElem_cons_succ]
    refine wpAnyH_done (by kernel_rfl) ?_ _
    refine hK _ _ ?_
    go_wp2
    go_ret
    exact ⟨rfl, BD⟩
  · rw [if_neg hck] at HZD
    go_enter Tryd.func6, Tryd.ntmps6
    go_wp2_with (first
      | (rw [hkk])
      | (go_at_call 8; (with_reducible refine (awake07_any _ HT.out).mono ?_); rintro e w0 ⟨rfl, h0⟩; have B0 := Lib.hid h0; clear h0)
      | (go_at_call 9; (with_reducible refine (HSM.out _ B0.out).mono ?_); rintro e w1 ⟨rfl, rfl⟩)
      | (go_at_call 10; (with_reducible refine (HP.out _ B0.out).mono ?_); rintro e w2 ⟨A2, n2, c2, rfl, b2⟩; have B2 := Lib.hid (below_step B0.out b2); clear b2)
      | (go_at_call 10; (with_reducible refine (HPK.out _ B2.out).mono ?_); rintro e w3 ⟨A3, n3, c3, rfl, b3⟩; have B3 := Lib.hid (below_step B2.out b3); clear b3)
      | (at_builtin; refine wpList_append_cells rfl (.tmp 48) (.tmp 49) 22 rfl w3.heap.size 25 j0 Tryd.underlying22 hj jz0 jz1 jz2 (.slice none 0 0) 0 [] rfl (by_own_nil _ _) A n c q rfl (HA.out.below B3.out) (by omega) (Nat.le_refl _) ?_; intro v4 w4 h1 h2; rw [Nat.zero_add, List.nil_append] at h1; have O4 := Lib.hid h1; have B4 := Lib.hid h2; clear h1 h2)
      | (at_builtin; refine wpList_append_one rfl (.tmp 51) (.tmp 53) 22 25 rfl w3.heap.size 25 j0 (.slice none 0 0) 24 Tryd.underlying22 hj jz0 jz1 jz2 rfl v4 n (q.map Hd.v) rfl O4.out (.slice B m d) rfl rfl ?_ ?_ ?_ ?_; (omega); (unfold maxLen; omega); (exact B4.out.size); intro v5 w5 h1 h2; have B5 := Lib.hid (below_step B3.out (B4.out.trans h2)); obtain ⟨A5, c5, rfl, hC5⟩ := CellsA.of_own (q := q ++ [⟨B, m, d, l⟩]) (by rw [hd_snoc]; exact h1) (HXS.out _ B5.out); have C5 := Lib.hid hC5; clear h1 h2 hC5)
      | (go_at_call 10; (with_reducible refine (HPM.out _ _ _ B5.out C5.out).mono ?_); rintro e w6 ⟨A6, n6, c6, rfl, b6⟩; have C6 := Lib.hid (C5.out.below b6); have B6 := Lib.hid (below_step B5.out b6); clear b6)
      | (go_at_call 13; (with_reducible refine (HZ.out _ B6.out).mono ?_); rintro e w7 ⟨rfl, rfl⟩))
    have BD := B6.out.drew
    have hw1 := IntWalk.i64_in ((z : Int) + (m : Int)) (by omega)
    have hw2 := IntWalk.i64_in ((z : Int) + (m : Int) + 1) (by omega)
    have hw3 := IntWalk.i64_in (z : Int) (by omega)
    rename_i K hK
    refine wp_held (fun w' : World => True) K hmx ?_ (fun _ _ h => h)
    refine wpAnyH_take (i := 0) (v := .int .i64 0) rfl (by kernel_rfl) (by kernel_rfl) (by kernel_rfl) (fun _ _ _ h => h) (Or.inl ⟨by rfl, ?_⟩) trivial ?_
    · rintro w6 s1
      go_simp
    simp only [Act.put, List.setIfInBounds_toArray, List.set_cons_zero, List.set_cons_succ, List.getElem_toArray, List.getElem_cons_zero]
    refine wpAnyH_take (i := 1) (v := .bool false) rfl (by kernel_rfl) (by kernel_rfl) (by kernel_rfl) (fun _ _ _ h => h) (Or.inl ⟨by rfl, ?_⟩) trivial ?_
    · rintro w6 s1
      go_simp
    simp only [Act.put, List.setIfInBounds_toArray, List.set_cons_zero, List.set_cons_succ, List.getElem_toArray, List.getElem_cons_zero, List.getElem_cons_succ]
    refine wpAnyH_take (i := 2) (v := .bool false) rfl (by kernel_rfl) (by kernel_rfl) (by kernel_rfl) (fun _ _ _ h => h) (Or.inl ⟨by rfl, ?_⟩) trivial ?_
    · rintro w6 s1
      go_simp
    simp only [Act.put, List.setIfInBounds_toArray, List.set_cons_zero, List.set_cons_succ, List.getElem_toArray, List.getElem_cons_zero, List.getElem_cons_succ]
    refine wpAnyH_take (i := 3) (v := .int .i64 0) rfl (by kernel_rfl) (by kernel_rfl) (by kernel_rfl) (fun _ _ _ h => h) (Or.inl ⟨by rfl, ?_⟩) trivial ?_
    · rintro w6 s1
      go_simp
    simp only [Act.put, List.setIfInBounds_toArray, List.set_cons_zero, List.set_cons_succ, List.getElem_toArray, List.getElem_cons_zero, List.getElem_cons_succ]
    refine wpAnyH_take (i := 4) (v := .bool true) rfl (by kernel_rfl) (by kernel_rfl) (by kernel_rfl) (fun _ _ _ h => h) (Or.inl ⟨by rfl, ?_⟩) trivial ?_
    · rintro w6 s1
      go_simp
    simp only [Act.put, List.setIfInBounds_toArray, List.set_cons_zero, List.set_cons_succ, List.getElem_toArray, List.getElem_cons_zero, List.getElem_cons_succ]
    refine wpAnyH_take (i := 5) (v := .bool true) rfl (by kernel_rfl) (by kernel_rfl) (by kernel_rfl) (fun _ _ _ h => h) (Or.inl ⟨by rfl, ?_⟩) trivial ?_
    · rintro w6 s1
      go_simp
    simp only [Act.put, List.setIfInBounds_toArray, List.set_cons_zero, List.set_cons_succ, List.getElem_toArray, List.getElem_cons_zero, List.getElem_cons_succ]
    refine wpAnyH_take (i := 6) (v := .bool true) rfl (by kernel_rfl) (by kernel_rfl) (by kernel_rfl) (fun _ _ _ h => h) (Or.inl ⟨by rfl, ?_⟩) trivial ?_
    · rintro w6 s1
      go_simp
    simp only [Act.put, List.setIfInBounds_toArray, List.set_cons_zero, List.set_cons_succ, List.getElem_toArray, List.getElem_cons_zero, List.getElem_cons_succ]
    refine wpAnyH_take (i := 7) (v := .int .i64 1) rfl (by kernel_rfl) (by kernel_rfl) (by kernel_rfl) (fun _ _ _ h => h) (Or.inl ⟨by rfl, ?_⟩) trivial ?_
    · rintro w6 s1
      go_simp
    simp only [Act.put, List.setIfInBounds_toArray, List.set_cons_zero, List.set_cons_succ, List.getElem_toArray, List.getElem_cons_zero, List.getElem_cons_succ]
    refine wpAnyH_take (i := 8) (v := .bool false) rfl (by kernel_rfl) (by kernel_rfl) (by kernel_rfl) (fun _ _ _ h => h) (Or.inl ⟨by rfl, ?_⟩) trivial ?_
    · rintro w6 s1
      go_simp
    simp only [Act.put, List.setIfInBounds_toArray, List.set_cons_zero, List.set_cons_succ, List.getElem_toArray, List.getElem_cons_zero, List.getElem_cons_succ]
    refine wpAnyH_take (i := 9) (v := .bool false) rfl (by kernel_rfl) (by kernel_rfl) (by kernel_rfl) (fun _ _ _ h => h) (Or.inl ⟨by rfl, ?_⟩) trivial ?_
    · rintro w6 s1
      go_simp
    simp only [Act.put, List.setIfInBounds_toArray, List.set_cons_zero, List.set_cons_succ, List.getElem_toArray, List.getElem_cons_zero, List.getElem_cons_succ]
    refine wpAnyH_take (i := 10) (v := .bool true) rfl (by kernel_rfl) (by kernel_rfl) (by kernel_rfl) (fun _ _ _ h => h) (Or.inl ⟨by rfl, ?_⟩) trivial ?_
    · rintro w6 s1
      go_simp
    simp only [Act.put, List.setIfInBounds_toArray, List.set_cons_zero, List.set_cons_succ, List.getElem_toArray, List.getElem_cons_zero, List.getElem_cons_succ]
    refine wpAnyH_take (i := 11) (v := .bool true) rfl (by kernel_rfl) (by kernel_rfl) (by kernel_rfl) (fun _ _ _ h => h) (Or.inl ⟨by rfl, ?_⟩) trivial ?_
    · rintro w6 s1
      go_simp
    simp only [Act.put, List.setIfInBounds_toArray, List.set_cons_zero, List.set_cons_succ, List.getElem_toArray, List.getElem_cons_zero, List.getElem_cons_succ]
    refine wpAnyH_take (i := 12) (v := .bool true) rfl (by kernel_rfl) (by kernel_rfl) (by kernel_rfl) (fun _ _ _ h => h) (Or.inl ⟨by rfl, ?_⟩) trivial ?_
    · rintro w6 s1
      go_simp
    simp only [Act.put, List.setIfInBounds_toArray, List.set_cons_zero, List.set_cons_succ, List.getElem_toArray, List.getElem_cons_zero, List.getElem_cons_succ]
    refine wpAnyH_take (i := 13) (v := .slice A5 (n + 1) c5) rfl (by kernel_rfl) (by kernel_rfl) (by kernel_rfl) (fun _ _ _ h => h) (Or.inl ⟨by rfl, ?_⟩) trivial ?_
    · rintro w6 s1
      go_simp
    simp only [Act.put, List.setIfInBounds_toArray, List.set_cons_zero, List.set_cons_succ, List.getElem_toArray, List.getElem_cons_zero, List.getElem_cons_succ]
    refine wpAnyH_take (i := 15) (v := .slice A n c) rfl (by kernel_rfl) (by kernel_rfl) (by kernel_rfl) (fun _ _ _ h => h) (Or.inl ⟨by rfl, ?_⟩) trivial ?_
    · rintro w6 s1
      go_simp
    simp only [Act.put, List.setIfInBounds_toArray, List.set_cons_zero, List.set_cons_succ, List.getElem_toArray, List.getElem_cons_zero, List.getElem_cons_succ]
    refine wpAnyH_take (i := 17) (v := .slice B m d) rfl (by kernel_rfl) (by kernel_rfl) (by kernel_rfl) (fun _ _ _ h => h) (Or.inl ⟨by rfl, ?_⟩) trivial ?_
    · rintro w6 s1
      go_simp
    simp only [Act.put, List.setIfInBounds_toArray, List.set_cons_zero, List.set_cons_succ, List.getElem_toArray, List.getElem_cons_zero, List.getElem_cons_succ]
    refine wpAnyH_take (i := 18) (v := .int .i64 (m : Int)) rfl (by kernel_rfl) (by kernel_rfl) (by kernel_rfl) (fun _ _ _ h => h) (Or.inl ⟨by rfl, ?_⟩) trivial ?_
    · rintro w6 s1
      go_simp
    simp only [Act.put, List.setIfInBounds_toArray, List.set_cons_zero, List.set_cons_succ, List.getElem_toArray, List.getElem_cons_zero, List.getElem_cons_succ]
    refine wpAnyH_ready (rs := [14]) (by kernel_rfl) (by simp) ?_
    refine AllReadyH.cons rfl (fun K5 hK5 => ?_) AllReadyH.nil
    go_simp
    go_at_call 13
    (with_reducible refine (HZM.out _ _ _ (C6.out.below (Below.refl _ w6).drew)).mono ?_)
    rintro e wz ⟨rfl, rfl⟩
    refine hK5.out _ _ trivial (fun _ => ?_)
    clear hK5 K5
    refine wpAnyH_ready (rs := [16]) (by kernel_rfl) (by simp) ?_
    refine AllReadyH.cons rfl (fun K5 hK5 => ?_) AllReadyH.nil
    go_simp
    go_at_call 13
    (with_reducible refine (HZ.out _ BD).mono ?_)
    rintro e wz ⟨rfl, rfl⟩
    refine hK5.out _ _ trivial (fun _ => ?_)
    clear hK5 K5
    refine wpAnyH_take (i := 19) (v := .int .i64 ((z : Int) + (m : Int))) rfl (by kernel_rfl) (by kernel_rfl) (by kernel_rfl) (fun _ _ _ h => h) (Or.inl ⟨by rfl, ?_⟩) trivial ?_
    · rintro w6 s1
      go_simp
    simp only [Act.put, List.setIfInBounds_toArray, List.set_cons_zero, List.set_cons_succ, List.getElem_toArray, List.getElem_cons_zero, List.getElem_cons_succ]
    refine wpAnyH_take (i := 20) (v := .int .i64 ((z : Int) + (m : Int) + 1)) rfl (by kernel_rfl) (by kernel_rfl) (by kernel_rfl) (fun _ _ _ h => h) (Or.inl ⟨by rfl, ?_⟩) trivial ?_
    · rintro w6 s1
      go_simp
    simp only [Act.put, List.setIfInBounds_toArray, List.set_cons_zero, List.set_cons_succ, List.getElem_toArray, List.getElem_cons_zero, List.getElem_cons_succ]
    refine wpAnyH_take (i := 21) (v := .bool true) rfl (by kernel_rfl) (by kernel_rfl) (by kernel_rfl) (fun _ _ _ h => h) (Or.inl ⟨by rfl, ?_⟩) trivial ?_
    · rintro w6 s1
      go_simp
    simp only [Act.put, List.setIfInBounds_toArray, List.set_cons_zero, List.set_cons_succ, List.getElem_toArray, List.getElem_cons_zero, List.getElem_cons_succ]
    refine wpAnyH_take (i := 22) (v := .bool true) rfl (by kernel_rfl) (by kernel_rfl) (by kernel_rfl) (fun _ _ _ h => h) (Or.inl ⟨by rfl, ?_⟩) trivial ?_
    · rintro w6 s1
      go_simp
    simp only [Act.put, List.setIfInBounds_toArray, List.set_cons_zero, List.set_cons_succ, List.getElem_toArray, List.getElem_cons_zero, List.getElem_cons_succ]
    refine wpAnyH_take (i := 23) (v := .bool true) rfl (by kernel_rfl) (by kernel_rfl) (by kernel_rfl) (fun _ _ _ h => h) (Or.inl ⟨by rfl, ?_⟩) trivial ?_
    · rintro w6 s1
      go_simp
    simp only [Act.put, List.setIfInBounds_toArray, List.set_cons_zero, List.set_cons_succ, List.getElem_toArray, List.getElem_cons_zero, List.getElem_cons_succ]
    refine wpAnyH_take (i := 24) (v := .slice A n c) rfl (by kernel_rfl) (by kernel_rfl) (by kernel_rfl) (fun _ _ _ h => h) (Or.inl ⟨by rfl, ?_⟩) trivial ?_
    · rintro w6 s1
      go_simp
    simp only [Act.put, List.setIfInBounds_toArray, List.set_cons_zero, List.set_cons_succ, List.getElem_toArray, List.getElem_cons_zero, List.getElem_cons_succ]
    refine wpAnyH_take (i := 25) (v := .int .i64 (k : Int)) rfl (by kernel_rfl) (by kernel_rfl) (by kernel_rfl) (fun _ _ _ h => h) (Or.inl ⟨by rfl, ?_⟩) trivial ?_
    · rintro w6 s1
      go_simp
    simp only [Act.put, List.setIfInBounds_toArray, List.set_cons_zero, List.set_cons_succ, List.getElem_toArray, List.getElem_cons_zero, List.getElem_cons_succ]
    refine wpAnyH_take (i := 26) (v := .slice A k c) rfl (by kernel_rfl) (by kernel_rfl) (by kernel_rfl) (fun _ _ _ h => h) (Or.inl ⟨by rfl, ?_⟩) trivial ?_
    · rintro w6 s1
      go_simp
    simp only [Act.put, List.setIfInBounds_toArray, List.set_cons_zero, List.set_cons_succ, List.getElem_toArray, List.getElem_cons_zero, List.getElem_cons_succ]
    refine wpAnyH_take (i := 28) (v := .slice A n c) rfl (by kernel_rfl) (by kernel_rfl) (by kernel_rfl) (fun _ _ _ h => h) (Or.inl ⟨by rfl, ?_⟩) trivial ?_
    · rintro w6 s1
      go_simp
    simp only [Act.put, List.setIfInBounds_toArray, List.set_cons_zero, List.set_cons_succ, List.getElem_toArray, List.getElem_cons_zero, List.getElem_cons_succ]
    refine wpAnyH_take (i := 29) (v := .int .i64 (k : Int)) rfl (by kernel_rfl) (by kernel_rfl) (by kernel_rfl) (fun _ _ _ h => h) (Or.inl ⟨by rfl, ?_⟩) trivial ?_
    · rintro w6 s1
      go_simp
    simp only [Act.put, List.setIfInBounds_toArray, List.set_cons_zero, List.set_cons_succ, List.getElem_toArray, List.getElem_cons_zero, List.getElem_cons_succ]
    refine wpAnyH_take (i := 30) (v := .slice (A.map (·.add k)) (n - k) (c - k)) rfl (by kernel_rfl) (by kernel_rfl) (by kernel_rfl) (fun _ _ _ h => h) (Or.inl ⟨by rfl, ?_⟩) trivial ?_
    · rintro w6 s1
      go_simp
    simp only [Act.put, List.setIfInBounds_toArray, List.set_cons_zero, List.set_cons_succ, List.getElem_toArray, List.getElem_cons_zero, List.getElem_cons_succ]
    refine wpAnyH_take (i := 33) (v := .slice A n c) rfl (by kernel_rfl) (by kernel_rfl) (by kernel_rfl) (fun _ _ _ h => h) (Or.inl ⟨by rfl, ?_⟩) trivial ?_
    · rintro w6 s1
      go_simp
    simp only [Act.put, List.setIfInBounds_toArray, List.set_cons_zero, List.set_cons_succ, List.getElem_toArray, List.getElem_cons_zero, List.getElem_cons_succ]
    refine wpAnyH_ready (rs := [27]) (by kernel_rfl) (by simp) ?_
    refine AllReadyH.cons rfl (fun K5 hK5 => ?_) AllReadyH.nil
    go_simp
    go_at_call 13
    (with_reducible refine (HZK.out _ BD).mono ?_)
    rintro e wz ⟨rfl, rfl⟩
    refine hK5.out _ _ trivial (fun _ => ?_)
    clear hK5 K5
    refine wpAnyH_ready (rs := [31]) (by kernel_rfl) (by simp) ?_
    refine AllReadyH.cons rfl (fun K5 hK5 => ?_) AllReadyH.nil
    go_simp
    go_at_call 13
    (with_reducible refine (HZD.out _ BD).mono ?_)
    rintro e wz ⟨rfl, rfl⟩
    refine hK5.out _ _ trivial (fun _ => ?_)
    clear hK5 K5
    refine wpAnyH_take (i := 32) (v := .int .i64 (z : Int)) rfl (by kernel_rfl) (by kernel_rfl) (by kernel_rfl) (fun _ _ _ h => h) (Or.inl ⟨by rfl, ?_⟩) trivial ?_
    · rintro w6 s1
      go_simp
    simp only [Act.put, List.setIfInBounds_toArray, List.set_cons_zero, List.set_cons_succ, List.getElem_toArray, List.getElem_cons_zero, List.getElem_cons_succ]
    refine wpAnyH_ready (rs := [34]) (by kernel_rfl) (by simp) ?_
    refine AllReadyH.cons rfl (fun K5 hK5 => ?_) AllReadyH.nil
    go_simp
    go_at_call 13
    (with_reducible refine (HZ.out _ BD).mono ?_)
    rintro e wz ⟨rfl, rfl⟩
    refine hK5.out _ _ trivial (fun _ => ?_)
    clear hK5 K5
    refine wpAnyH_take (i := 35) (v := .bool true) rfl (by kernel_rfl) (by kernel_rfl) (by kernel_rfl) (fun _ _ _ h => h) (Or.inl ⟨by rfl, ?_⟩) trivial ?_
    · rintro w6 s1
      go_simp
    simp only [Act.put, List.setIfInBounds_toArray, List.set_cons_zero, List.set_cons_succ, List.getElem_toArray, List.getElem_cons_zero, List.getElem_cons_succ]
    refine wpAnyH_take (i := 36) (v := .bool true) rfl (by kernel_rfl) (by kernel_rfl) (by kernel_rfl) (fun _ _ _ h => h) (Or.inl ⟨by rfl, ?_⟩) trivial ?_
    · rintro w6 s1
      go_simp
    simp only [Act.put, List.setIfInBounds_toArray, List.set_cons_zero, List.set_cons_succ, List.getElem_toArray, List.getElem_cons_zero, List.getElem_cons_succ]
    refine wpAnyH_take (i := 37) (v := .bool true) rfl (by kernel_rfl) (by kernel_rfl) (by kernel_rfl) (fun _ _ _ h => h) (Or.inl ⟨by rfl, ?_⟩) trivial ?_
    · rintro w6 s1
      go_simp
    simp only [Act.put, List.setIfInBounds_toArray, List.set_cons_zero, List.set_cons_succ, List.getElem_toArray, List.getElem_cons_zero, List.getElem_cons_succ]
    refine wpAnyH_done (by kernel_rfl) ?_ _
    refine hK _ _ ?_
    go_wp2
    go_ret
    exact ⟨rfl, BD⟩

set_option maxRecDepth 100000 in
set_option maxHeartbeats 8000000 in
theorem ceFronts_c (A B : Option Addr) (n c at_ m d : Nat) (q : List Hd) (l : List UInt8) (w : World) (ht : Tab w) (h : CellsA w A n c q) (hk : Arg w B m d l) (hs : smallB q = true) (hm : m ≤ 300) (ha : at_ < 256) (hz : ¬ cSz (lq q) + m + 1 ≤ 122) (hy : ¬ cSz (lq q) ≤ 122) :
    Calls Tryd.prog 6 #[.slice A n c, .int .u8 (at_ : Int), .slice B m d] w fun e w' => e = .returned (.bool true) ∧ Below w.heap.size w w' := by
  have hmx : Tryd.prog.follows .mixedOrders = true := by kernel_rfl
  obtain ⟨j0, hj, jz0, jz1, jz2⟩ := info_parts byinfo
  have HT := Lib.hid ht
  have HA := Lib.hid h
  have HK := Lib.hid hk
  have hf := small_few hs
  have HSM := Lib.hid (fun w1 (hb : Below w.heap.size w w1) => small07_any A n c q w1 (h.below hb))
  rw [hs] at HSM
  have HP := Lib.hid (fun w1 (hb : Below w.heap.size w w1) => cePack_er A n c q w1 (ht.below hb) (h.below hb) hf)
  have HZ := Lib.hid (fun w1 (hb : Below w.heap.size w w1) => ceSize_any A n c q w1 (h.below hb) hf)
  have hnc := h.room
  have hcm := h.most
  have hmd := hk.room
  have hdm := hk.most
  unfold maxLen at hcm hdm
  have hn3 : n ≤ 300 := by have := of_decide_eq_true hs; have := h.len; omega
  have e1 : ¬ ((300 : Int) < (m : Int)) := by omega
  obtain ⟨k, hkk, hkn⟩ : ∃ k : Nat, (at_ : Int) % ((n : Int) + 1) = (k : Int) ∧ k ≤ n := ⟨at_ % (n + 1), by simp, by have := Nat.mod_lt at_ (show 0 < n + 1 by omega); omega⟩
  have HPK := Lib.hid (fun w1 (hb : Below w.heap.size w w1) => cePack_er A k c (q.take k) w1 (HT.out.below hb) ((HA.out.below hb).take_ k hkn) (hf.take k))
  have HZK := Lib.hid (fun w1 (hb : Below w.heap.size w w1) => ceSize_any A k c (q.take k) w1 ((HA.out.below hb).take_ k hkn) (hf.take k))
  have HZD := Lib.hid (fun w1 (hb : Below w.heap.size w w1) => ceSize_any _ (n - k) (c - k) (q.drop k) w1 ((HA.out.below hb).drop_ k hkn) (hf.drop k))
  rw [lq_take] at HPK HZK
  rw [lq_drop] at HZD
  have hzs : cSz ((lq q).take k) + cSz ((lq q).drop k) = cSz (lq q) := by rw [← cSz_app, List.take_append_drop]
  have hfm : Few (q ++ [⟨B, m, d, l⟩]) := ⟨by have := hf.1; have := of_decide_eq_true hs; simp; omega, fun x hx => by
    rcases List.mem_append.1 hx with h | h
    · exact hf.2 x h
    · obtain rfl := List.mem_singleton.1 h
      have := hk.len
      show l.length ≤ 1000
      omega⟩
  have hzm : cSz (lq (q ++ [⟨B, m, d, l⟩])) = cSz (lq q) + m + 1 := by
    rw [lq_snoc, cSz_app]
    show cSz (lq q) + (l.length + 1 + 0) = _
    have := hk.len
    omega
  have HPM := Lib.hid (fun A c w1 (hb : Below w.heap.size w w1) (h : CellsA w1 A (n + 1) c (q ++ [⟨B, m, d, l⟩])) => cePack_er A (n + 1) c _ w1 (HT.out.below hb) h hfm)
  have HZM := Lib.hid (fun A c w1 (h : CellsA w1 A (n + 1) c (q ++ [⟨B, m, d, l⟩])) => ceSize_any A (n + 1) c _ w1 h hfm)
  rw [hzm] at HPM HZM
  have hz3 := hf.size
  have HXS := Lib.hid (fun w1 (hb : Below w.heap.size w w1) => show ∀ x ∈ q ++ [⟨B, m, d, l⟩], Arg w1 x.a x.n x.c x.l from fun x hx => by
    rcases List.mem_append.1 hx with h | h
    · exact (HA.out.below hb).each x h
    · obtain rfl := List.mem_singleton.1 h
      exact HK.out.below hb)
  have hzi : (cSz ((lq q).take k) : Int) + (cSz ((lq q).drop k) : Int) = (cSz (lq q) : Int) := by omega
  clear hzs
  have ez : errOf (cSz (lq q)) = 1 := if_neg (by omega)
  rw [ez] at HP
  obtain ⟨f, ek⟩ : ∃ f, errOf (cSz ((lq q).take k)) = f := ⟨_, rfl⟩
  rw [ek] at HPK
  have eg : errOf (cSz (lq q) + m + 1) = 1 := if_neg (by omega)
  rw [eg] at HPM
  have hd : decide ((cSz (lq q) : Int) + (m : Int) + 1 ≤ 122) = false := decide_eq_false (by omega)
  clear ez ek eg
  have i0 : (0 : Int) ≤ (k : Int) := by omega
  have i1 : (k : Int) ≤ (c : Int) := by omega
  have i2 : (k : Int) ≤ (n : Int) := by omega
  clear ht h hk hs hf hfm hzm
  generalize cSz ((lq q).take k) = zk at *
  generalize cSz ((lq q).drop k) = zd at *
  generalize cSz (lq q) = z at *
  have hck : c = k ∨ c ≠ k := by omega
  rcases hck with hck | hck
  · rw [if_pos hck] at HZD
    obtain rfl : n = k := by omega
    obtain rfl : c = n := hck
    rw [Nat.sub_self] at HZD
    go_enter Tryd.func6, Tryd.ntmps6
    go_wp2_with (first
      | (rw [hkk])
      | (go_at_call 8; (with_reducible refine (awake07_any _ HT.out).mono ?_); rintro e w0 ⟨rfl, h0⟩; have B0 := Lib.hid h0; clear h0)
      | (go_at_call 9; (with_reducible refine (HSM.out _ B0.out).mono ?_); rintro e w1 ⟨rfl, rfl⟩)
      | (go_at_call 10; (with_reducible refine (HP.out _ B0.out).mono ?_); rintro e w2 ⟨A2, n2, c2, rfl, b2⟩; have B2 := Lib.hid (below_step B0.out b2); clear b2)
      | (go_at_call 10; (with_reducible refine (HPK.out _ B2.out).mono ?_); rintro e w3 ⟨A3, n3, c3, rfl, b3⟩; have B3 := Lib.hid (below_step B2.out b3); clear b3)
      | (at_builtin; refine wpList_append_cells rfl (.tmp 48) (.tmp 49) 22 rfl w3.heap.size 25 j0 Tryd.underlying22 hj jz0 jz1 jz2 (.slice none 0 0) 0 [] rfl (by_own_nil _ _) A c c q rfl (HA.out.below B3.out) (by omega) (Nat.le_refl _) ?_; intro v4 w4 h1 h2; rw [Nat.zero_add, List.nil_append] at h1; have O4 := Lib.hid h1; have B4 := Lib.hid h2; clear h1 h2)
      | (at_builtin; refine wpList_append_one rfl (.tmp 51) (.tmp 53) 22 25 rfl w3.heap.size 25 j0 (.slice none 0 0) 24 Tryd.underlying22 hj jz0 jz1 jz2 rfl v4 c (q.map Hd.v) rfl O4.out (.slice B m d) rfl rfl ?_ ?_ ?_ ?_; (omega); (unfold maxLen; omega); (exact B4.out.size); intro v5 w5 h1 h2; have B5 := Lib.hid (below_step B3.out (B4.out.trans h2)); obtain ⟨A5, c5, rfl, hC5⟩ := CellsA.of_own (q := q ++ [⟨B, m, d, l⟩]) (by rw [hd_snoc]; exact h1) (HXS.out _ B5.out); have C5 := Lib.hid hC5; clear h1 h2 hC5)
      | (go_at_call 10; (with_reducible refine (HPM.out _ _ _ B5.out C5.out).mono ?_); rintro e w6 ⟨A6, n6, c6, rfl, b6⟩; have C6 := Lib.hid (C5.out.below b6); have B6 := Lib.hid (below_step B5.out b6); clear b6)
      | (go_at_call 13; (with_reducible refine (HZ.out _ B6.out).mono ?_); rintro e w7 ⟨rfl, rfl⟩))
    have BD := B6.out.drew
    have hw1 := IntWalk.i64_in ((z : Int) + (m : Int)) (by omega)
    have hw2 := IntWalk.i64_in ((z : Int) + (m : Int) + 1) (by omega)
    have hw3 := IntWalk.i64_in (z : Int) (by omega)
    rename_i K hK
    refine wp_held (fun w' : World => True) K hmx ?_ (fun _ _ h => h)
    refine wpAnyH_take (i := 0) (v := .int .i64 1) rfl (by kernel_rfl) (by kernel_rfl) (by kernel_rfl) (fun _ _ _ h => h) (Or.inl ⟨by rfl, ?_⟩) trivial ?_
    · rintro w6 s1
      go_simp
    simp only [Act.put, List.setIfInBounds_toArray, List.set_cons_zero, List.set_cons_succ, List.getElem_toArray, List.getElem_cons_zero]
    refine wpAnyH_take (i := 1) (v := .bool true) rfl (by kernel_rfl) (by kernel_rfl) (by kernel_rfl) (fun _ _ _ h => h) (Or.inl ⟨by rfl, ?_⟩) trivial ?_
    · rintro w6 s1
      go_simp
    simp only [Act.put, List.setIfInBounds_toArray, List.set_cons_zero, List.set_cons_succ, List.getElem_toArray, List.getElem_cons_zero, List.getElem_cons_succ]
    refine wpAnyH_take (i := 2) (v := .bool true) rfl (by kernel_rfl) (by kernel_rfl) (by kernel_rfl) (fun _ _ _ h => h) (Or.inl ⟨by rfl, ?_⟩) trivial ?_
    · rintro w6 s1
      go_simp
    simp only [Act.put, List.setIfInBounds_toArray, List.set_cons_zero, List.set_cons_succ, List.getElem_toArray, List.getElem_cons_zero, List.getElem_cons_succ]
    refine wpAnyH_take (i := 3) (v := undef) rfl (by kernel_rfl) (by kernel_rfl) (by kernel_rfl) (fun _ _ _ h => h) (Or.inr ⟨by rfl, rfl⟩) trivial ?_
    simp only [Act.put, List.setIfInBounds_toArray, List.set_cons_zero, List.set_cons_succ, List.getElem_toArray, List.getElem_cons_zero, List.getElem_cons_succ]
    refine wpAnyH_take (i := 4) (v := undef) rfl (by kernel_rfl) (by kernel_rfl) (by kernel_rfl) (fun _ _ _ h => h) (Or.inr ⟨by rfl, rfl⟩) trivial ?_
    simp only [Act.put, List.setIfInBounds_toArray, List.set_cons_zero, List.set_cons_succ, List.getElem_toArray, List.getElem_cons_zero, List.getElem_cons_succ]
    refine wpAnyH_take (i := 5) (v := .bool true) rfl (by kernel_rfl) (by kernel_rfl) (by kernel_rfl) (fun _ _ _ h => h) (Or.inl ⟨by rfl, ?_⟩) trivial ?_
    · rintro w6 s1
      go_simp
    simp only [Act.put, List.setIfInBounds_toArray, List.set_cons_zero, List.set_cons_succ, List.getElem_toArray, List.getElem_cons_zero, List.getElem_cons_succ]
    refine wpAnyH_take (i := 6) (v := .bool true) rfl (by kernel_rfl) (by kernel_rfl) (by kernel_rfl) (fun _ _ _ h => h) (Or.inl ⟨by rfl, ?_⟩) trivial ?_
    · rintro w6 s1
      go_simp
    simp only [Act.put, List.setIfInBounds_toArray, List.set_cons_zero, List.set_cons_succ, List.getElem_toArray, List.getElem_cons_zero, List.getElem_cons_succ]
    refine wpAnyH_take (i := 7) (v := .int .i64 1) rfl (by kernel_rfl) (by kernel_rfl) (by kernel_rfl) (fun _ _ _ h => h) (Or.inl ⟨by rfl, ?_⟩) trivial ?_
    · rintro w6 s1
      go_simp
    simp only [Act.put, List.setIfInBounds_toArray, List.set_cons_zero, List.set_cons_succ, List.getElem_toArray, List.getElem_cons_zero, List.getElem_cons_succ]
    refine wpAnyH_take (i := 8) (v := .bool false) rfl (by kernel_rfl) (by kernel_rfl) (by kernel_rfl) (fun _ _ _ h => h) (Or.inl ⟨by rfl, ?_⟩) trivial ?_
    · rintro w6 s1
      go_simp
    simp only [Act.put, List.setIfInBounds_toArray, List.set_cons_zero, List.set_cons_succ, List.getElem_toArray, List.getElem_cons_zero, List.getElem_cons_succ]
    refine wpAnyH_take (i := 9) (v := .bool false) rfl (by kernel_rfl) (by kernel_rfl) (by kernel_rfl) (fun _ _ _ h => h) (Or.inl ⟨by rfl, ?_⟩) trivial ?_
    · rintro w6 s1
      go_simp
    simp only [Act.put, List.setIfInBounds_toArray, List.set_cons_zero, List.set_cons_succ, List.getElem_toArray, List.getElem_cons_zero, List.getElem_cons_succ]
    refine wpAnyH_take (i := 10) (v := .bool true) rfl (by kernel_rfl) (by kernel_rfl) (by kernel_rfl) (fun _ _ _ h => h) (Or.inl ⟨by rfl, ?_⟩) trivial ?_
    · rintro w6 s1
      go_simp
    simp only [Act.put, List.setIfInBounds_toArray, List.set_cons_zero, List.set_cons_succ, List.getElem_toArray, List.getElem_cons_zero, List.getElem_cons_succ]
    refine wpAnyH_take (i := 11) (v := .bool true) rfl (by kernel_rfl) (by kernel_rfl) (by kernel_rfl) (fun _ _ _ h => h) (Or.inl ⟨by rfl, ?_⟩) trivial ?_
    · rintro w6 s1
      go_simp
    simp only [Act.put, List.setIfInBounds_toArray, List.set_cons_zero, List.set_cons_succ, List.getElem_toArray, List.getElem_cons_zero, List.getElem_cons_succ]
    refine wpAnyH_take (i := 12) (v := .bool true) rfl (by kernel_rfl) (by kernel_rfl) (by kernel_rfl) (fun _ _ _ h => h) (Or.inl ⟨by rfl, ?_⟩) trivial ?_
    · rintro w6 s1
      go_simp
    simp only [Act.put, List.setIfInBounds_toArray, List.set_cons_zero, List.set_cons_succ, List.getElem_toArray, List.getElem_cons_zero, List.getElem_cons_succ]
    refine wpAnyH_take (i := 13) (v := .slice A5 (c + 1) c5) rfl (by kernel_rfl) (by kernel_rfl) (by kernel_rfl) (fun _ _ _ h => h) (Or.inl ⟨by rfl, ?_⟩) trivial ?_
    · rintro w6 s1
      go_simp
    simp only [Act.put, List.setIfInBounds_toArray, List.set_cons_zero, List.set_cons_succ, List.getElem_toArray, List.getElem_cons_zero, List.getElem_cons_succ]
    refine wpAnyH_take (i := 15) (v := .slice A c c) rfl (by kernel_rfl) (by kernel_rfl) (by kernel_rfl) (fun _ _ _ h => h) (Or.inl ⟨by rfl, ?_⟩) trivial ?_
    · rintro w6 s1
      go_simp
    simp only [Act.put, List.setIfInBounds_toArray, List.set_cons_zero, List.set_cons_succ, List.getElem_toArray, List.getElem_cons_zero, List.getElem_cons_succ]
    refine wpAnyH_take (i := 17) (v := .slice B m d) rfl (by kernel_rfl) (by kernel_rfl) (by kernel_rfl) (fun _ _ _ h => h) (Or.inl ⟨by rfl, ?_⟩) trivial ?_
    · rintro w6 s1
      go_simp
    simp only [Act.put, List.setIfInBounds_toArray, List.set_cons_zero, List.set_cons_succ, List.getElem_toArray, List.getElem_cons_zero, List.getElem_cons_succ]
    refine wpAnyH_take (i := 18) (v := .int .i64 (m : Int)) rfl (by kernel_rfl) (by kernel_rfl) (by kernel_rfl) (fun _ _ _ h => h) (Or.inl ⟨by rfl, ?_⟩) trivial ?_
    · rintro w6 s1
      go_simp
    simp only [Act.put, List.setIfInBounds_toArray, List.set_cons_zero, List.set_cons_succ, List.getElem_toArray, List.getElem_cons_zero, List.getElem_cons_succ]
    refine wpAnyH_ready (rs := [14]) (by kernel_rfl) (by simp) ?_
    refine AllReadyH.cons rfl (fun K5 hK5 => ?_) AllReadyH.nil
    go_simp
    go_at_call 13
    (with_reducible refine (HZM.out _ _ _ (C6.out.below (Below.refl _ w6).drew)).mono ?_)
    rintro e wz ⟨rfl, rfl⟩
    refine hK5.out _ _ trivial (fun _ => ?_)
    clear hK5 K5
    refine wpAnyH_ready (rs := [16]) (by kernel_rfl) (by simp) ?_
    refine AllReadyH.cons rfl (fun K5 hK5 => ?_) AllReadyH.nil
    go_simp
    go_at_call 13
    (with_reducible refine (HZ.out _ BD).mono ?_)
    rintro e wz ⟨rfl, rfl⟩
    refine hK5.out _ _ trivial (fun _ => ?_)
    clear hK5 K5
    refine wpAnyH_take (i := 19) (v := .int .i64 ((z : Int) + (m : Int))) rfl (by kernel_rfl) (by kernel_rfl) (by kernel_rfl) (fun _ _ _ h => h) (Or.inl ⟨by rfl, ?_⟩) trivial ?_
    · rintro w6 s1
      go_simp
    simp only [Act.put, List.setIfInBounds_toArray, List.set_cons_zero, List.set_cons_succ, List.getElem_toArray, List.getElem_cons_zero, List.getElem_cons_succ]
    refine wpAnyH_take (i := 20) (v := .int .i64 ((z : Int) + (m : Int) + 1)) rfl (by kernel_rfl) (by kernel_rfl) (by kernel_rfl) (fun _ _ _ h => h) (Or.inl ⟨by rfl, ?_⟩) trivial ?_
    · rintro w6 s1
      go_simp
    simp only [Act.put, List.setIfInBounds_toArray, List.set_cons_zero, List.set_cons_succ, List.getElem_toArray, List.getElem_cons_zero, List.getElem_cons_succ]
    refine wpAnyH_take (i := 21) (v := .bool true) rfl (by kernel_rfl) (by kernel_rfl) (by kernel_rfl) (fun _ _ _ h => h) (Or.inl ⟨by rfl, ?_⟩) trivial ?_
    · rintro w6 s1
      go_simp
    simp only [Act.put, List.setIfInBounds_toArray, List.set_cons_zero, List.set_cons_succ, List.getElem_toArray, List.getElem_cons_zero, List.getElem_cons_succ]
    refine wpAnyH_take (i := 22) (v := .bool true) rfl (by kernel_rfl) (by kernel_rfl) (by kernel_rfl) (fun _ _ _ h => h) (Or.inl ⟨by rfl, ?_⟩) trivial ?_
    · rintro w6 s1
      go_simp
    simp only [Act.put, List.setIfInBounds_toArray, List.set_cons_zero, List.set_cons_succ, List.getElem_toArray, List.getElem_cons_zero, List.getElem_cons_succ]
    refine wpAnyH_take (i := 23) (v := .bool true) rfl (by kernel_rfl) (by kernel_rfl) (by kernel_rfl) (fun _ _ _ h => h) (Or.inl ⟨by rfl, ?_⟩) trivial ?_
    · rintro w6 s1
      go_simp
    simp only [Act.put, List.setIfInBounds_toArray, List.set_cons_zero, List.set_cons_succ, List.getElem_toArray, List.getElem_cons_zero, List.getElem_cons_succ]
    refine wpAnyH_take (i := 24) (v := .slice A c c) rfl (by kernel_rfl) (by kernel_rfl) (by kernel_rfl) (fun _ _ _ h => h) (Or.inl ⟨by rfl, ?_⟩) trivial ?_
    · rintro w6 s1
      go_simp
    simp only [Act.put, List.setIfInBounds_toArray, List.set_cons_zero, List.set_cons_succ, List.getElem_toArray, List.getElem_cons_zero, List.getElem_cons_succ]
    refine wpAnyH_take (i := 25) (v := .int .i64 (c : Int)) rfl (by kernel_rfl) (by kernel_rfl) (by kernel_rfl) (fun _ _ _ h => h) (Or.inl ⟨by rfl, ?_⟩) trivial ?_
    · rintro w6 s1
      go_simp
    simp only [Act.put, List.setIfInBounds_toArray, List.set_cons_zero, List.set_cons_succ, List.getElem_toArray, List.getElem_cons_zero, List.getElem_cons_succ]
    refine wpAnyH_take (i := 26) (v := .slice A c c) rfl (by kernel_rfl) (by kernel_rfl) (by kernel_rfl) (fun _ _ _ h => h) (Or.inl ⟨by rfl, ?_⟩) trivial ?_
    · rintro w6 s1
      go_simp
    simp only [Act.put, List.setIfInBounds_toArray, List.set_cons_zero, List.set_cons_succ, List.getElem_toArray, List.getElem_cons_zero, List.getElem_cons_succ]
    refine wpAnyH_take (i := 28) (v := .slice A c c) rfl (by kernel_rfl) (by kernel_rfl) (by kernel_rfl) (fun _ _ _ h => h) (Or.inl ⟨by rfl, ?_⟩) trivial ?_
    · rintro w6 s1
      go_simp
    simp only [Act.put, List.setIfInBounds_toArray, List.set_cons_zero, List.set_cons_succ, List.getElem_toArray, List.getElem_cons_zero, List.getElem_cons_succ]
    refine wpAnyH_take (i := 29) (v := .int .i64 (c : Int)) rfl (by kernel_rfl) (by kernel_rfl) (by kernel_rfl) (fun _ _ _ h => h) (Or.inl ⟨by rfl, ?_⟩) trivial ?_
    · rintro w6 s1
      go_simp
    simp only [Act.put, List.setIfInBounds_toArray, List.set_cons_zero, List.set_cons_succ, List.getElem_toArray, List.getElem_cons_zero, List.getElem_cons_succ]
    refine wpAnyH_take (i := 30) (v := .slice A 0 0) rfl (by kernel_rfl) (by kernel_rfl) (by kernel_rfl) (fun _ _ _ h => h) (Or.inl ⟨by rfl, ?_⟩) trivial ?_
    · rintro w6 s1
      go_simp
    simp only [Act.put, List.setIfInBounds_toArray, List.set_cons_zero, List.set_cons_succ, List.getElem_toArray, List.getElem_cons_zero, List.getElem_cons_succ]
    refine wpAnyH_take (i := 33) (v := .slice A c c) rfl (by kernel_rfl) (by kernel_rfl) (by kernel_rfl) (fun _ _ _ h => h) (Or.inl ⟨by rfl, ?_⟩) trivial ?_
    · rintro w6 s1
      go_simp
    simp only [Act.put, List.setIfInBounds_toArray, List.set_cons_zero, List.set_cons_succ, List.getElem_toArray, List.getElem_cons_zero, List.getElem_cons_succ]
    refine wpAnyH_ready (rs := [27]) (by kernel_rfl) (by simp) ?_
    refine AllReadyH.cons rfl (fun K5 hK5 => ?_) AllReadyH.nil
    go_simp
    go_at_call 13
    (with_reducible refine (HZK.out _ BD).mono ?_)
    rintro e wz ⟨rfl, rfl⟩
    refine hK5.out _ _ trivial (fun _ => ?_)
    clear hK5 K5
    refine wpAnyH_ready (rs := [31]) (by kernel_rfl) (by simp) ?_
    refine AllReadyH.cons rfl (fun K5 hK5 => ?_) AllReadyH.nil
    go_simp
    go_at_call 13
    (with_reducible refine (HZD.out _ BD).mono ?_)
    rintro e wz ⟨rfl, rfl⟩
    refine hK5.out _ _ trivial (fun _ => ?_)
    clear hK5 K5
    refine wpAnyH_take (i := 32) (v := .int .i64 (z : Int)) rfl (by kernel_rfl) (by kernel_rfl) (by kernel_rfl) (fun _ _ _ h => h) (Or.inl ⟨by rfl, ?_⟩) trivial ?_
    · rintro w6 s1
      go_simp
    simp only [Act.put, List.setIfInBounds_toArray, List.set_cons_zero, List.set_cons_succ, List.getElem_toArray, List.getElem_cons_zero, List.getElem_cons_succ]
    refine wpAnyH_ready (rs := [34]) (by kernel_rfl) (by simp) ?_
    refine AllReadyH.cons rfl (fun K5 hK5 => ?_) AllReadyH.nil
    go_simp
    go_at_call 13
    (with_reducible refine (HZ.out _ BD).mono ?_)
    rintro e wz ⟨rfl, rfl⟩
    refine hK5.out _ _ trivial (fun _ => ?_)
    clear hK5 K5
    refine wpAnyH_take (i := 35) (v := .bool true) rfl (by kernel_rfl) (by kernel_rfl) (by kernel_rfl) (fun _ _ _ h => h) (Or.inl ⟨by rfl, ?_⟩) trivial ?_
    · rintro w6 s1
      go_simp
    simp only [Act.put, List.setIfInBounds_toArray, List.set_cons_zero, List.set_cons_succ, List.getElem_toArray, List.getElem_cons_zero, List.getElem_cons_succ]
    refine wpAnyH_take (i := 36) (v := .bool true) rfl (by kernel_rfl) (by kernel_rfl) (by kernel_rfl) (fun _ _ _ h => h) (Or.inl ⟨by rfl, ?_⟩) trivial ?_
    · rintro w6 s1
      go_simp
    simp only [Act.put, List.setIfInBounds_toArray, List.set_cons_zero, List.set_cons_succ, List.getElem_toArray, List.getElem_cons_zero, List.getElem_cons_succ]
    refine wpAnyH_take (i := 37) (v := .bool true) rfl (by kernel_rfl) (by kernel_rfl) (by kernel_rfl) (fun _ _ _ h => h) (Or.inl ⟨by rfl, ?_⟩) trivial ?_
    · rintro w6 s1
      go_simp
    simp only [Act.put, List.setIfInBounds_toArray, List.set_cons_zero, List.set_cons_succ, List.getElem_toArray, List.getElem_cons_zero, List.getElem_cons_succ]
    refine wpAnyH_done (by kernel_rfl) ?_ _
    refine hK _ _ ?_
    go_wp2
    go_ret
    exact ⟨rfl, BD⟩
  · rw [if_neg hck] at HZD
    go_enter Tryd.func6, Tryd.ntmps6
    go_wp2_with (first
      | (rw [hkk])
      | (go_at_call 8; (with_reducible refine (awake07_any _ HT.out).mono ?_); rintro e w0 ⟨rfl, h0⟩; have B0 := Lib.hid h0; clear h0)
      | (go_at_call 9; (with_reducible refine (HSM.out _ B0.out).mono ?_); rintro e w1 ⟨rfl, rfl⟩)
      | (go_at_call 10; (with_reducible refine (HP.out _ B0.out).mono ?_); rintro e w2 ⟨A2, n2, c2, rfl, b2⟩; have B2 := Lib.hid (below_step B0.out b2); clear b2)
      | (go_at_call 10; (with_reducible refine (HPK.out _ B2.out).mono ?_); rintro e w3 ⟨A3, n3, c3, rfl, b3⟩; have B3 := Lib.hid (below_step B2.out b3); clear b3)
      | (at_builtin; refine wpList_append_cells rfl (.tmp 48) (.tmp 49) 22 rfl w3.heap.size 25 j0 Tryd.underlying22 hj jz0 jz1 jz2 (.slice none 0 0) 0 [] rfl (by_own_nil _ _) A n c q rfl (HA.out.below B3.out) (by omega) (Nat.le_refl _) ?_; intro v4 w4 h1 h2; rw [Nat.zero_add, List.nil_append] at h1; have O4 := Lib.hid h1; have B4 := Lib.hid h2; clear h1 h2)
      | (at_builtin; refine wpList_append_one rfl (.tmp 51) (.tmp 53) 22 25 rfl w3.heap.size 25 j0 (.slice none 0 0) 24 Tryd.underlying22 hj jz0 jz1 jz2 rfl v4 n (q.map Hd.v) rfl O4.out (.slice B m d) rfl rfl ?_ ?_ ?_ ?_; (omega); (unfold maxLen; omega); (exact B4.out.size); intro v5 w5 h1 h2; have B5 := Lib.hid (below_step B3.out (B4.out.trans h2)); obtain ⟨A5, c5, rfl, hC5⟩ := CellsA.of_own (q := q ++ [⟨B, m, d, l⟩]) (by rw [hd_snoc]; exact h1) (HXS.out _ B5.out); have C5 := Lib.hid hC5; clear h1 h2 hC5)
      | (go_at_call 10; (with_reducible refine (HPM.out _ _ _ B5.out C5.out).mono ?_); rintro e w6 ⟨A6, n6, c6, rfl, b6⟩; have C6 := Lib.hid (C5.out.below b6); have B6 := Lib.hid (below_step B5.out b6); clear b6)
      | (go_at_call 13; (with_reducible refine (HZ.out _ B6.out).mono ?_); rintro e w7 ⟨rfl, rfl⟩))
    have BD := B6.out.drew
    have hw1 := IntWalk.i64_in ((z : Int) + (m : Int)) (by omega)
    have hw2 := IntWalk.i64_in ((z : Int) + (m : Int) + 1) (by omega)
    have hw3 := IntWalk.i64_in (z : Int) (by omega)
    rename_i K hK
    refine wp_held (fun w' : World => True) K hmx ?_ (fun _ _ h => h)
    refine wpAnyH_take (i := 0) (v := .int .i64 1) rfl (by kernel_rfl) (by kernel_rfl) (by kernel_rfl) (fun _ _ _ h => h) (Or.inl ⟨by rfl, ?_⟩) trivial ?_
    · rintro w6 s1
      go_simp
    simp only [Act.put, List.setIfInBounds_toArray, List.set_cons_zero, List.set_cons_succ, List.getElem_toArray, List.getElem_cons_zero]
    refine wpAnyH_take (i := 1) (v := .bool true) rfl (by kernel_rfl) (by kernel_rfl) (by kernel_rfl) (fun _ _ _ h => h) (Or.inl ⟨by rfl, ?_⟩) trivial ?_
    · rintro w6 s1
      go_simp
    simp only [Act.put, List.setIfInBounds_toArray, List.set_cons_zero, List.set_cons_succ, List.getElem_toArray, List.getElem_cons_zero, List.getElem_cons_succ]
    refine wpAnyH_take (i := 2) (v := .bool true) rfl (by kernel_rfl) (by kernel_rfl) (by kernel_rfl) (fun _ _ _ h => h) (Or.inl ⟨by rfl, ?_⟩) trivial ?_
    · rintro w6 s1
      go_simp
    simp only [Act.put, List.setIfInBounds_toArray, List.set_cons_zero, List.set_cons_succ, List.getElem_toArray, List.getElem_cons_zero, List.getElem_cons_succ]
    refine wpAnyH_take (i := 3) (v := undef) rfl (by kernel_rfl) (by kernel_rfl) (by kernel_rfl) (fun _ _ _ h => h) (Or.inr ⟨by rfl, rfl⟩) trivial ?_
    simp only [Act.put, List.setIfInBounds_toArray, List.set_cons_zero, List.set_cons_succ, List.getElem_toArray, List.getElem_cons_zero, List.getElem_cons_succ]
    refine wpAnyH_take (i := 4) (v := undef) rfl (by kernel_rfl) (by kernel_rfl) (by kernel_rfl) (fun _ _ _ h => h) (Or.inr ⟨by rfl, rfl⟩) trivial ?_
    simp only [Act.put, List.setIfInBounds_toArray, List.set_cons_zero, List.set_cons_succ, List.getElem_toArray, List.getElem_cons_zero, List.getElem_cons_succ]
    refine wpAnyH_take (i := 5) (v := .bool true) rfl (by kernel_rfl) (by kernel_rfl) (by kernel_rfl) (fun _ _ _ h => h) (Or.inl ⟨by rfl, ?_⟩) trivial ?_
    · rintro w6 s1
      go_simp
    simp only [Act.put, List.setIfInBounds_toArray, List.set_cons_zero, List.set_cons_succ, List.getElem_toArray, List.getElem_cons_zero, List.getElem_cons_succ]
    refine wpAnyH_take (i := 6) (v := .bool true) rfl (by kernel_rfl) (by kernel_rfl) (by kernel_rfl) (fun _ _ _ h => h) (Or.inl ⟨by rfl, ?_⟩) trivial ?_
    · rintro w6 s1
      go_simp
    simp only [Act.put, List.setIfInBounds_toArray, List.set_cons_zero, List.set_cons_succ, List.getElem_toArray, List.getElem_cons_zero, List.getElem_cons_succ]
    refine wpAnyH_take (i := 7) (v := .int .i64 1) rfl (by kernel_rfl) (by kernel_rfl) (by kernel_rfl) (fun _ _ _ h => h) (Or.inl ⟨by rfl, ?_⟩) trivial ?_
    · rintro w6 s1
      go_simp
    simp only [Act.put, List.setIfInBounds_toArray, List.set_cons_zero, List.set_cons_succ, List.getElem_toArray, List.getElem_cons_zero, List.getElem_cons_succ]
    refine wpAnyH_take (i := 8) (v := .bool false) rfl (by kernel_rfl) (by kernel_rfl) (by kernel_rfl) (fun _ _ _ h => h) (Or.inl ⟨by rfl, ?_⟩) trivial ?_
    · rintro w6 s1
      go_simp
    simp only [Act.put, List.setIfInBounds_toArray, List.set_cons_zero, List.set_cons_succ, List.getElem_toArray, List.getElem_cons_zero, List.getElem_cons_succ]
    refine wpAnyH_take (i := 9) (v := .bool false) rfl (by kernel_rfl) (by kernel_rfl) (by kernel_rfl) (fun _ _ _ h => h) (Or.inl ⟨by rfl, ?_⟩) trivial ?_
    · rintro w6 s1
      go_simp
    simp only [Act.put, List.setIfInBounds_toArray, List.set_cons_zero, List.set_cons_succ, List.getElem_toArray, List.getElem_cons_zero, List.getElem_cons_succ]
    refine wpAnyH_take (i := 10) (v := .bool true) rfl (by kernel_rfl) (by kernel_rfl) (by kernel_rfl) (fun _ _ _ h => h) (Or.inl ⟨by rfl, ?_⟩) trivial ?_
    · rintro w6 s1
      go_simp
    simp only [Act.put, List.setIfInBounds_toArray, List.set_cons_zero, List.set_cons_succ, List.getElem_toArray, List.getElem_cons_zero, List.getElem_cons_succ]
    refine wpAnyH_take (i := 11) (v := .bool true) rfl (by kernel_rfl) (by kernel_rfl) (by kernel_rfl) (fun _ _ _ h => h) (Or.inl ⟨by rfl, ?_⟩) trivial ?_
    · rintro w6 s1
      go_simp
    simp only [Act.put, List.setIfInBounds_toArray, List.set_cons_zero, List.set_cons_succ, List.getElem_toArray, List.getElem_cons_zero, List.getElem_cons_succ]
    refine wpAnyH_take (i := 12) (v := .bool true) rfl (by kernel_rfl) (by kernel_rfl) (by kernel_rfl) (fun _ _ _ h => h) (Or.inl ⟨by rfl, ?_⟩) trivial ?_
    · rintro w6 s1
      go_simp
    simp only [Act.put, List.setIfInBounds_toArray, List.set_cons_zero, List.set_cons_succ, List.getElem_toArray, List.getElem_cons_zero, List.getElem_cons_succ]
    refine wpAnyH_take (i := 13) (v := .slice A5 (n + 1) c5) rfl (by kernel_rfl) (by kernel_rfl) (by kernel_rfl) (fun _ _ _ h => h) (Or.inl ⟨by rfl, ?_⟩) trivial ?_
    · rintro w6 s1
      go_simp
    simp only [Act.put, List.setIfInBounds_toArray, List.set_cons_zero, List.set_cons_succ, List.getElem_toArray, List.getElem_cons_zero, List.getElem_cons_succ]
    refine wpAnyH_take (i := 15) (v := .slice A n c) rfl (by kernel_rfl) (by kernel_rfl) (by kernel_rfl) (fun _ _ _ h => h) (Or.inl ⟨by rfl, ?_⟩) trivial ?_
    · rintro w6 s1
      go_simp
    simp only [Act.put, List.setIfInBounds_toArray, List.set_cons_zero, List.set_cons_succ, List.getElem_toArray, List.getElem_cons_zero, List.getElem_cons_succ]
    refine wpAnyH_take (i := 17) (v := .slice B m d) rfl (by kernel_rfl) (by kernel_rfl) (by kernel_rfl) (fun _ _ _ h => h) (Or.inl ⟨by rfl, ?_⟩) trivial ?_
    · rintro w6 s1
      go_simp
    simp only [Act.put, List.setIfInBounds_toArray, List.set_cons_zero, List.set_cons_succ, List.getElem_toArray, List.getElem_cons_zero, List.getElem_cons_succ]
    refine wpAnyH_take (i := 18) (v := .int .i64 (m : Int)) rfl (by kernel_rfl) (by kernel_rfl) (by kernel_rfl) (fun _ _ _ h => h) (Or.inl ⟨by rfl, ?_⟩) trivial ?_
    · rintro w6 s1
      go_simp
    simp only [Act.put, List.setIfInBounds_toArray, List.set_cons_zero, List.set_cons_succ, List.getElem_toArray, List.getElem_cons_zero, List.getElem_cons_succ]
    refine wpAnyH_ready (rs := [14]) (by kernel_rfl) (by simp) ?_
    refine AllReadyH.cons rfl (fun K5 hK5 => ?_) AllReadyH.nil
    go_simp
    go_at_call 13
    (with_reducible refine (HZM.out _ _ _ (C6.out.below (Below.refl _ w6).drew)).mono ?_)
    rintro e wz ⟨rfl, rfl⟩
    refine hK5.out _ _ trivial (fun _ => ?_)
    clear hK5 K5
    refine wpAnyH_ready (rs := [16]) (by kernel_rfl) (by simp) ?_
    refine AllReadyH.cons rfl (fun K5 hK5 => ?_) AllReadyH.nil
    go_simp
    go_at_call 13
    (with_reducible refine (HZ.out _ BD).mono ?_)
    rintro e wz ⟨rfl, rfl⟩
    refine hK5.out _ _ trivial (fun _ => ?_)
    clear hK5 K5
    refine wpAnyH_take (i := 19) (v := .int .i64 ((z : Int) + (m : Int))) rfl (by kernel_rfl) (by kernel_rfl) (by kernel_rfl) (fun _ _ _ h => h) (Or.inl ⟨by rfl, ?_⟩) trivial ?_
    · rintro w6 s1
      go_simp
    simp only [Act.put, List.setIfInBounds_toArray, List.set_cons_zero, List.set_cons_succ, List.getElem_toArray, List.getElem_cons_zero, List.getElem_cons_succ]
    refine wpAnyH_take (i := 20) (v := .int .i64 ((z : Int) + (m : Int) + 1)) rfl (by kernel_rfl) (by kernel_rfl) (by kernel_rfl) (fun _ _ _ h => h) (Or.inl ⟨by rfl, ?_⟩) trivial ?_
    · rintro w6 s1
      go_simp
    simp only [Act.put, List.setIfInBounds_toArray, List.set_cons_zero, List.set_cons_succ, List.getElem_toArray, List.getElem_cons_zero, List.getElem_cons_succ]
    refine wpAnyH_take (i := 21) (v := .bool true) rfl (by kernel_rfl) (by kernel_rfl) (by kernel_rfl) (fun _ _ _ h => h) (Or.inl ⟨by rfl, ?_⟩) trivial ?_
    · rintro w6 s1
      go_simp
    simp only [Act.put, List.setIfInBounds_toArray, List.set_cons_zero, List.set_cons_succ, List.getElem_toArray, List.getElem_cons_zero, List.getElem_cons_succ]
    refine wpAnyH_take (i := 22) (v := .bool true) rfl (by kernel_rfl) (by kernel_rfl) (by kernel_rfl) (fun _ _ _ h => h) (Or.inl ⟨by rfl, ?_⟩) trivial ?_
    · rintro w6 s1
      go_simp
    simp only [Act.put, List.setIfInBounds_toArray, List.set_cons_zero, List.set_cons_succ, List.getElem_toArray, List.getElem_cons_zero, List.getElem_cons_succ]
    refine wpAnyH_take (i := 23) (v := .bool true) rfl (by kernel_rfl) (by kernel_rfl) (by kernel_rfl) (fun _ _ _ h => h) (Or.inl ⟨by rfl, ?_⟩) trivial ?_
    · rintro w6 s1
      go_simp
    simp only [Act.put, List.setIfInBounds_toArray, List.set_cons_zero, List.set_cons_succ, List.getElem_toArray, List.getElem_cons_zero, List.getElem_cons_succ]
    refine wpAnyH_take (i := 24) (v := .slice A n c) rfl (by kernel_rfl) (by kernel_rfl) (by kernel_rfl) (fun _ _ _ h => h) (Or.inl ⟨by rfl, ?_⟩) trivial ?_
    · rintro w6 s1
      go_simp
    simp only [Act.put, List.setIfInBounds_toArray, List.set_cons_zero, List.set_cons_succ, List.getElem_toArray, List.getElem_cons_zero, List.getElem_cons_succ]
    refine wpAnyH_take (i := 25) (v := .int .i64 (k : Int)) rfl (by kernel_rfl) (by kernel_rfl) (by kernel_rfl) (fun _ _ _ h => h) (Or.inl ⟨by rfl, ?_⟩) trivial ?_
    · rintro w6 s1
      go_simp
    simp only [Act.put, List.setIfInBounds_toArray, List.set_cons_zero, List.set_cons_succ, List.getElem_toArray, List.getElem_cons_zero, List.getElem_cons_succ]
    refine wpAnyH_take (i := 26) (v := .slice A k c) rfl (by kernel_rfl) (by kernel_rfl) (by kernel_rfl) (fun _ _ _ h => h) (Or.inl ⟨by rfl, ?_⟩) trivial ?_
    · rintro w6 s1
      go_simp
    simp only [Act.put, List.setIfInBounds_toArray, List.set_cons_zero, List.set_cons_succ, List.getElem_toArray, List.getElem_cons_zero, List.getElem_cons_succ]
    refine wpAnyH_take (i := 28) (v := .slice A n c) rfl (by kernel_rfl) (by kernel_rfl) (by kernel_rfl) (fun _ _ _ h => h) (Or.inl ⟨by rfl, ?_⟩) trivial ?_
    · rintro w6 s1
      go_simp
    simp only [Act.put, List.setIfInBounds_toArray, List.set_cons_zero, List.set_cons_succ, List.getElem_toArray, List.getElem_cons_zero, List.getElem_cons_succ]
    refine wpAnyH_take (i := 29) (v := .int .i64 (k : Int)) rfl (by kernel_rfl) (by kernel_rfl) (by kernel_rfl) (fun _ _ _ h => h) (Or.inl ⟨by rfl, ?_⟩) trivial ?_
    · rintro w6 s1
      go_simp
    simp only [Act.put, List.setIfInBounds_toArray, List.set_cons_zero, List.set_cons_succ, List.getElem_toArray, List.getElem_cons_zero, List.getElem_cons_succ]
    refine wpAnyH_take (i := 30) (v := .slice (A.map (·.add k)) (n - k) (c - k)) rfl (by kernel_rfl) (by kernel_rfl) (by kernel_rfl) (fun _ _ _ h => h) (Or.inl ⟨by rfl, ?_⟩) trivial ?_
    · rintro w6 s1
      go_simp
    simp only [Act.put, List.setIfInBounds_toArray, List.set_cons_zero, List.set_cons_succ, List.getElem_toArray, List.getElem_cons_zero, List.getElem_cons_succ]
    refine wpAnyH_take (i := 33) (v := .slice A n c) rfl (by kernel_rfl) (by kernel_rfl) (by kernel_rfl) (fun _ _ _ h => h) (Or.inl ⟨by rfl, ?_⟩) trivial ?_
    · rintro w6 s1
      go_simp
    simp only [Act.put, List.setIfInBounds_toArray, List.set_cons_zero, List.set_cons_succ, List.getElem_toArray, List.getElem_cons_zero, List.getElem_cons_succ]
    refine wpAnyH_ready (rs := [27]) (by kernel_rfl) (by simp) ?_
    refine AllReadyH.cons rfl (fun K5 hK5 => ?_) AllReadyH.nil
    go_simp
    go_at_call 13
    (with_reducible refine (HZK.out _ BD).mono ?_)
    rintro e wz ⟨rfl, rfl⟩
    refine hK5.out _ _ trivial (fun _ => ?_)
    clear hK5 K5
    refine wpAnyH_ready (rs := [31]) (by kernel_rfl) (by simp) ?_
    refine AllReadyH.cons rfl (fun K5 hK5 => ?_) AllReadyH.nil
    go_simp
    go_at_call 13
    (with_reducible refine (HZD.out _ BD).mono ?_)
    rintro e wz ⟨rfl, rfl⟩
    refine hK5.out _ _ trivial (fun _ => ?_)
    clear hK5 K5
    refine wpAnyH_take (i := 32) (v := .int .i64 (z : Int)) rfl (by kernel_rfl) (by kernel_rfl) (by kernel_rfl) (fun _ _ _ h => h) (Or.inl ⟨by rfl, ?_⟩) trivial ?_
    · rintro w6 s1
      go_simp
    simp only [Act.put, List.setIfInBounds_toArray, List.set_cons_zero, List.set_cons_succ, List.getElem_toArray, List.getElem_cons_zero, List.getElem_cons_succ]
    refine wpAnyH_ready (rs := [34]) (by kernel_rfl) (by simp) ?_
    refine AllReadyH.cons rfl (fun K5 hK5 => ?_) AllReadyH.nil
    go_simp
    go_at_call 13
    (with_reducible refine (HZ.out _ BD).mono ?_)
    rintro e wz ⟨rfl, rfl⟩
    refine hK5.out _ _ trivial (fun _ => ?_)
    clear hK5 K5
    refine wpAnyH_take (i := 35) (v := .bool true) rfl (by kernel_rfl) (by kernel_rfl) (by kernel_rfl) (fun _ _ _ h => h) (Or.inl ⟨by rfl, ?_⟩) trivial ?_
    · rintro w6 s1
      go_simp
    simp only [Act.put, List.setIfInBounds_toArray, List.set_cons_zero, List.set_cons_succ, List.getElem_toArray, List.getElem_cons_zero, List.getElem_cons_succ]
    refine wpAnyH_take (i := 36) (v := .bool true) rfl (by kernel_rfl) (by kernel_rfl) (by kernel_rfl) (fun _ _ _ h => h) (Or.inl ⟨by rfl, ?_⟩) trivial ?_
    · rintro w6 s1
      go_simp
    simp only [Act.put, List.setIfInBounds_toArray, List.set_cons_zero, List.set_cons_succ, List.getElem_toArray, List.getElem_cons_zero, List.getElem_cons_succ]
    refine wpAnyH_take (i := 37) (v := .bool true) rfl (by kernel_rfl) (by kernel_rfl) (by kernel_rfl) (fun _ _ _ h => h) (Or.inl ⟨by rfl, ?_⟩) trivial ?_
    · rintro w6 s1
      go_simp
    simp only [Act.put, List.setIfInBounds_toArray, List.set_cons_zero, List.set_cons_succ, List.getElem_toArray, List.getElem_cons_zero, List.getElem_cons_succ]
    refine wpAnyH_done (by kernel_rfl) ?_ _
    refine hK _ _ ?_
    go_wp2
    go_ret
    exact ⟨rfl, BD⟩

theorem walkCeFronts (A B : Option Addr) (n c at_ m d : Nat) (q : List Hd) (l : List UInt8) (w : World) (ht : Tab w) (h : CellsA w A n c q) (hk : Arg w B m d l) (ha : at_ < 256) :
    Calls Tryd.prog 6 #[.slice A n c, .int .u8 (at_ : Int), .slice B m d] w fun e w' => e = .returned (.bool true) ∧ Below w.heap.size w w' := by
  by_cases hs : smallB q = true ∧ m ≤ 300
  · by_cases h1 : cSz (lq q) + m + 1 ≤ 122
    · exact ceFronts_a A B n c at_ m d q l w ht h hk hs.1 hs.2 ha h1
    · by_cases h2 : cSz (lq q) ≤ 122
      · exact ceFronts_b A B n c at_ m d q l w ht h hk hs.1 hs.2 ha h1 h2
      · exact ceFronts_c A B n c at_ m d q l w ht h hk hs.1 hs.2 ha h1 h2
  · have HT := Lib.hid ht
    have HSM := Lib.hid (fun w1 (hb : Below w.heap.size w w1) => small07_any A n c q w1 (h.below hb))
    have hdm := hk.most
    have hmd := hk.room
    unfold maxLen at hdm
    obtain ⟨u, hu⟩ : ∃ u, smallB q = u := ⟨_, rfl⟩
    rw [hu] at hs HSM
    clear ht h hk hu
    cases u
    · go_enter Tryd.func6, Tryd.ntmps6
      go_wp2_with (first
        | (go_at_call 8; (with_reducible refine (awake07_any _ HT.out).mono ?_); rintro e w0 ⟨rfl, h0⟩; have B0 := Lib.hid h0; clear h0)
        | (go_at_call 9; (with_reducible refine (HSM.out _ B0.out).mono ?_); rintro e w1 ⟨rfl, rfl⟩))
      go_ret
      exact ⟨rfl, B0.out⟩
    · have e1 : (300 : Int) < (m : Int) := by
        have : ¬ m ≤ 300 := fun e => hs ⟨rfl, e⟩
        omega
      clear hs
      go_enter Tryd.func6, Tryd.ntmps6
      go_wp2_with (first
        | (go_at_call 8; (with_reducible refine (awake07_any _ HT.out).mono ?_); rintro e w0 ⟨rfl, h0⟩; have B0 := Lib.hid h0; clear h0)
        | (go_at_call 9; (with_reducible refine (HSM.out _ B0.out).mono ?_); rintro e w1 ⟨rfl, rfl⟩))
      go_ret
      exact ⟨rfl, B0.out⟩

end Go.Proofs.YtlehajpadiiicaaDoor
