import Derived.Test.YtoelojlabmconaaJPpb
/- Of a claim's texts, joined: Ppc. No statement but in the last. -/
namespace Go.Proofs.Ytoelojlabmconaa
open Go.RowKit
set_option linter.unusedVariables false

structure RowF (w : World) (lo : Nat) (s : Sl13) (l : List Int) : Prop where
  row : Row w 3 lo s.1 (l.map (Value.int .i64))
  len : s.2.1 = l.length
  nil : s.1 = none → s.2.2 = 0
  room : s.2.1 ≤ s.2.2
  most : s.2.2 ≤ maxLen
section
variable {w w' : World} {lo : Nat} {s : Sl13} {l : List Int}
theorem RowF.z (h : RowF w lo s l) : RowZ w s.1 s.2.1 s.2.2 l := ⟨h.len, h.row.reads, h.nil, h.room, h.most⟩
theorem RowF.below (h : RowF w lo s l) (b : Below w.heap.size w w') : RowF w' lo s l := ⟨h.row.below b, h.len, h.nil, h.room, h.most⟩
theorem RowF.own {b sz n : Nat} {e : TypeId} {v : Value} {ys : List Value} (h : RowF w lo s l) (ho : w.ownsRow b e sz v n ys) (hne : 3 ≠ e) (hg : w.grownBy w' v.ownBlock) : RowF w' lo s l :=
  ⟨h.row.keep_ (fun g cs _ hh => hh.kept13 ho hne hg), h.len, h.nil, h.room, h.most⟩
theorem RowF.store {P : Nat} {t : TypeId} {cs : Array Value} (h : RowF w lo s l) (hP : Has w P t cs) (hne : 3 ≠ t) (i : Nat) (u : Value) : RowF (w.setCell ⟨P, i, none⟩ u) lo s l := ⟨h.row.store hP hne i u, h.len, h.nil, h.room, h.most⟩
theorem RowF.low {lo' : Nat} (h : RowF w lo s l) (hl : lo' ≤ lo) : RowF w lo' s l := ⟨h.row.low hl, h.len, h.nil, h.room, h.most⟩
theorem RowF.of_own {n c : Nat} {A : Option Addr} (h : w.ownsRow lo 3 1 (.slice A n c) n (l.map (Value.int .i64))) : RowF w lo (A, n, c) l := by
  have hz := RowZ.of_own h
  exact ⟨Row.of_own h, hz.len, hz.nil, hz.room, hz.most⟩
theorem RowF.same (h : RowF w lo s l) (hg : ∀ g, lo ≤ g → g < w.heap.size → w'.heap[g]? = w.heap[g]?) : RowF w' lo s l :=
  ⟨h.row.keep_ (fun g cs hl hh => (hg g hl hh.lt).trans hh), h.len, h.nil, h.room, h.most⟩
end
structure PoolF (w : World) (lo : Nat) (A : Option Addr) (n c : Nat) (B : Option Addr) (m d : Nat) (p : Pd) (ss : List Sl13) : Prop where
  free : RowF w lo (A, n, c) p.free
  len : m = p.wait.length
  same : ss.length = p.wait.length
  own : w.ownsRow lo 56 2 (.slice B m d) m (cellsW p.wait ss m)
  each : ∀ i, i < m → RowF w lo (ss.getD i sl0) (p.wait.getD i w00).2
  big : ∀ x ∈ p.wait, x.1 < 2 ^ 64
section
variable {w w' : World} {lo : Nat} {A B : Option Addr} {n c m d : Nat} {p : Pd} {ss : List Sl13}
theorem PoolF.below (h : PoolF w lo A n c B m d p ss) (b : Below w.heap.size w w') : PoolF w' lo A n c B m d p ss := ⟨h.free.below b, h.len, h.same, own_below13 h.own b, fun i hi => (h.each i hi).below b, h.big⟩
theorem PoolF.reads (h : PoolF w lo A n c B m d p ss) : 0 < m → ∃ b, B = some ⟨b, 0, none⟩ ∧ lo ≤ b ∧ b < w.heap.size ∧ (∀ i, i < m → w.cell? ⟨b, 0 + i * 2, none⟩ = some (.int .u64 ((p.wait.getD i w00).1 : Int)) ∧ w.cell? ⟨b, 0 + i * 2 + 1, none⟩ = some (.slice (ss.getD i sl0).1 (ss.getD i sl0).2.1 (ss.getD i sl0).2.2)) := fun h0 => by
  have ho := h.own
  rcases ho.2 with ⟨_, h1⟩ | ⟨g, cap, cur, e, hg, hc, h1, h2, h3, h4⟩
  · omega
  · injection e with e1 _ e3
    subst e1 e3
    refine ⟨g, rfl, hg, (Array.getElem?_eq_some_iff.1 hc).1, fun i hi => ?_⟩
    obtain ⟨c1, c2⟩ := cellsW_at p.wait ss m i hi
    rw [Nat.zero_add, ho.cellAt (i * 2) (by omega), ho.cellAt (i * 2 + 1) (by omega)]
    exact ⟨c1, c2⟩
theorem PoolF.room (h : PoolF w lo A n c B m d p ss) : m ≤ d ∧ d ≤ maxLen := by
  obtain ⟨A2, c2, e, h1, h2⟩ := own_by13 h.own
  injection e with e1 e2 e3
  subst e3
  exact ⟨h1, h2⟩
theorem PoolF.waits (h : PoolF w lo A n c B m d p ss) : WaitsA w B m d p.wait := by
  refine ⟨h.len, fun h0 => ?_, h.room.1, h.room.2, h.big⟩
  obtain ⟨b, e, _, hb, hc⟩ := h.reads h0
  refine ⟨b, 0, e, hb, fun i x hx => ?_⟩
  have him : i < m := by rw [h.len]; exact (List.getElem?_eq_some_iff.1 hx).1
  have e2 := getW_at hx
  have h1 := hc i him
  have h2 := h.each i him
  rw [e2] at h1 h2
  exact ⟨h1.1, _, _, _, h1.2, h2.z⟩
theorem PoolF.a (h : PoolF w lo A n c B m d p ss) : PoolA w A n c B m d p := ⟨h.free.z, h.waits⟩
theorem PoolF.moved (h : PoolF w lo A n c B m d p ss) (hs : w.heap.size ≤ w'.heap.size) (hg : ∀ g, lo ≤ g → g < w.heap.size → w'.heap[g]? = w.heap[g]?) : PoolF w' lo A n c B m d p ss := by
  refine ⟨h.free.same hg, h.len, h.same, ⟨h.own.1, ?_⟩, fun i hi => (h.each i hi).same hg, h.big⟩
  rcases h.own.2 with h1 | ⟨g, cap, cur, e, hl, hc, rest⟩
  · exact Or.inl h1
  · exact Or.inr ⟨g, cap, cur, e, hl, (hg g hl (Array.getElem?_eq_some_iff.1 hc).1).trans hc, rest⟩
end
theorem wait_info13 : (Try.prog.info? 56).map (fun i => (i.zero, i.size, i.bytes)) = some (some (.agg #[.int .u64 0, .slice none 0 0]), 2, 32) := by kernel_rfl
theorem cellsW_snoc (l : List (Nat × List Int)) (ss : List Sl13) (s : Sl13) : ∀ k, k ≤ ss.length → cellsW l (ss ++ [s]) k = cellsW l ss k
  | 0, _ => rfl
  | k + 1, hk => by
    unfold cellsW
    rw [cellsW_snoc l ss s k (by omega), show (ss ++ [s]).getD k sl0 = ss.getD k sl0 by rw [List.getD_eq_getElem?_getD, List.getD_eq_getElem?_getD, List.getElem?_append_left (by omega)]]
theorem getS_old {ss : List Sl13} {s : Sl13} {i : Nat} (h : i < ss.length) : (ss ++ [s]).getD i sl0 = ss.getD i sl0 := by rw [List.getD_eq_getElem?_getD, List.getD_eq_getElem?_getD, List.getElem?_append_left h]
theorem getS_new {ss : List Sl13} {s : Sl13} {i : Nat} (h : i = ss.length) : (ss ++ [s]).getD i sl0 = s := by subst h; rw [List.getD_eq_getElem?_getD, List.getElem?_append_right (Nat.le_refl _), Nat.sub_self]; rfl
structure OwL (w W2 wr : World) (G : Nat) (h : Int) (A3 : Option Addr) (n c3 : Nat) (p : Pd) (v : Value) (ss : List Sl13) (k : Nat) : Prop where
  len : ss.length = k
  box : Has wr G 25 #[.int .i64 h, .slice A3 n c3, v]
  free : RowF wr w.heap.size (A3, n, c3) p.free
  own : wr.ownsRow W2.heap.size 56 2 v k (cellsW p.wait ss k)
  each : ∀ i, i < k → RowF wr w.heap.size (ss.getD i sl0) (p.wait.getD i w00).2
  bel : Below W2.heap.size W2 wr
section
variable {w W2 wr w' : World} {G : Nat} {h : Int} {A3 : Option Addr} {n c3 : Nat} {p : Pd} {v : Value} {ss : List Sl13} {k : Nat}
theorem OwL.below (s : OwL w W2 wr G h A3 n c3 p v ss k) (b : Below wr.heap.size wr w') : OwL w W2 w' G h A3 n c3 p v ss k :=
  ⟨s.len, s.box.below b s.box.lt, s.free.below b, own_below13 s.own b, fun i hi => (s.each i hi).below b, s.bel.trans (b.mono s.bel.size)⟩
theorem PoolF.store {lo m d P : Nat} {A B : Option Addr} {c : Nat} {cs : Array Value} (s : PoolF wr lo A n c B m d p ss) (hP : Has wr P 25 cs) (i : Nat) (u : Value) : PoolF (wr.setCell ⟨P, i, none⟩ u) lo A n c B m d p ss :=
  ⟨s.free.store hP (by decide) i u, s.len, s.same, own_cell13 s.own hP (by decide) i u, fun j hj => (s.each j hj).store hP (by decide) i u, s.big⟩
theorem OwL.pool {Av : Option Addr} {m cv : Nat} (s : OwL w W2 wr G h A3 n c3 p (.slice Av m cv) ss m) (hm : m = p.wait.length) (hbig : ∀ x ∈ p.wait, x.1 < 2 ^ 64) (hlo : w.heap.size ≤ W2.heap.size) : PoolF wr w.heap.size A3 n c3 Av m cv p ss :=
  ⟨s.free, hm, s.len.trans hm, s.own.mono hlo, s.each, hbig⟩
theorem OwL.more {t : Nat} {A4 : Option Addr} {n4 c4 gn capn : Nat} {w5 : World} {xs : List Int} (s : OwL w W2 wr G h A3 n c3 p v ss k) (hk : k < p.wait.length) (ht : (p.wait.getD k w00).1 = t) (hx : (p.wait.getD k w00).2 = xs) (hG : W2.heap.size ≤ G) (r : RowF wr w.heap.size (A4, n4, c4) xs)
    (ho : w5.ownsRow W2.heap.size 56 2 (.slice (some ⟨gn, 0, none⟩) (k + 1) capn) (k + 1) (cellsW p.wait ss k ++ [.int .u64 (t : Int), .slice A4 n4 c4])) (hg : wr.grownBy w5 v.ownBlock) :
    OwL w W2 (w5.setCell ⟨G, 2, none⟩ (.slice (some ⟨gn, 0, none⟩) (k + 1) capn)) G h A3 n c3 p (.slice (some ⟨gn, 0, none⟩) (k + 1) capn) (ss ++ [(A4, n4, c4)]) (k + 1) := by
  have hb5 := s.box.kept13 s.own (by decide) hg
  refine ⟨by rw [List.length_append, s.len]; rfl, by simpa using hb5.store 2 (.slice (some ⟨gn, 0, none⟩) (k + 1) capn), (s.free.own s.own (by decide) hg).store hb5 (by decide) 2 _, ?_, fun i hi => ?_, ?_⟩
  · refine own_cell13 ?_ hb5 (by decide) 2 _
    unfold cellsW
    rw [cellsW_snoc _ _ _ _ (Nat.le_of_eq s.len.symm), getS_new s.len.symm, ht]
    exact ho
  · refine RowF.store ?_ hb5 (by decide) 2 _
    by_cases e : i = k
    · subst e
      rw [getS_new s.len.symm, hx]
      exact r.own s.own (by decide) hg
    · rw [getS_old (by have := s.len; omega)]
      exact (s.each i (by omega)).own s.own (by decide) hg
  · exact (s.bel.grown hg s.bel.size (fun g e => (s.own.lt g e).1)).setCell (p := ⟨G, 2, none⟩) hG _
end
section
variable {w : World} {A B : Option Addr} {n c m d : Nat}
set_option maxRecDepth 100000 in
set_option maxHeartbeats 8000000 in
theorem oOwn13_any (p : Pd) (h : Int) (hp : PoolA w A n c B m d p) (hs : smallR p) :
    Calls Try.prog 27 #[.agg #[.int .i64 h, .slice A n c, .slice B m d]] w fun e w' => ∃ A' c' B' d' ss, e = .returned (.agg #[.int .i64 h, .slice A' n c', .slice B' m d']) ∧ PoolF w' w.heap.size A' n c' B' m d' p ss ∧ Below w.heap.size w w' := by
  have hmx : Try.prog.follows .mixedOrders = true := by kernel_rfl
  obtain ⟨j0, hj, jz0, jz1, jz2⟩ := info_parts wait_info13
  obtain ⟨W2, hW2⟩ : ∃ W2, (w.alloc (.cells #[.int .i64 h, .slice A n c, .slice B m d] 25)).alloc (.cells #[.int .i64 0, .slice none 0 0, .slice none 0 0] 25) = W2 := ⟨_, rfl⟩
  have bW2 : Below w.heap.size w W2 := hW2 ▸ ((Below.refl _ w).alloc (Nat.le_refl _) _).alloc (by simp) _
  have HX2 : Hid (Has W2 w.heap.size 25 #[.int .i64 h, .slice A n c, .slice B m d]) := Lib.hid (hW2 ▸ (Has.made w _ _).alloc _)
  have HZ2 : Hid (Has W2 (w.heap.size + 1) 25 #[.int .i64 0, .slice none 0 0, .slice none 0 0]) := Lib.hid (by
    have := Has.made (w.alloc (.cells #[.int .i64 h, .slice A n c, .slice B m d] 25)) 25 #[.int .i64 0, .slice none 0 0, .slice none 0 0]
    rw [hW2] at this
    simpa using this)
  have HSZ : Hid (w.heap.size ≤ W2.heap.size ∧ W2.heap.size = w.heap.size + 1 + 1) := Lib.hid ⟨bW2.size, by rw [← hW2]; simp⟩
  have HP2 := Lib.hid (hp.below bW2)
  have HBW := Lib.hid bW2
  have HNL := Lib.hid hp.free.len.symm
  have HM := Lib.hid hp.wait.len
  have hmm : m ≤ 1000 := by have h1 := hs.2.1; have := hp.wait.len; omega
  have hnn : n ≤ 10000 := by have h1 := hs.1; have := hp.free.len; omega
  have HCL : Hid (∀ w1, Below W2.heap.size W2 w1 → Calls Try.prog 28 #[.slice A n c] w1 (OwnZ p.free w1)) := Lib.hid (fun w1 b1 => cloneZ13_any A n c p.free w1 (HP2.out.free.below b1) (by omega))
  have HSM := Lib.hid hs.1
  have HBG := Lib.hid hp.wait.big
  have HW2 := Lib.hid hW2
  clear hp bW2 hW2 hs
  go_enter Try.func27, Try.ntmps27
  go_wp2
  rename_i K hK
  try rw [HW2.out]
  obtain ⟨M, hM⟩ : ∃ M : Act → World → Prop, M = fun a w' => ∃ G A3 c3, W2.heap.size ≤ G ∧ Has w' G 25 #[.int .i64 h, .slice A3 n c3, .slice none 0 0] ∧ RowF w' w.heap.size (A3, n, c3) p.free ∧ Below W2.heap.size W2 w' ∧ a = ⟨#[(.agg #[.int .i64 h, .slice A n c, .slice B m d]), .pointer (some ⟨w.heap.size, 0, none⟩), .pointer (some ⟨w.heap.size + 1, 0, none⟩), .pointer (some ⟨G, 0, none⟩), undef, undef, .pointer (some ⟨w.heap.size, 0, none⟩), .int .i64 h, .pointer (some ⟨w.heap.size, 1, none⟩), .slice A n c, .slice A3 n c3, .agg #[.int .i64 h, .slice A3 n c3, .slice none 0 0], undef, undef, undef, undef, undef, undef, undef, undef, undef, undef, undef, undef, undef, undef, undef, undef, undef, undef, undef, undef], []⟩ := ⟨_, rfl⟩
  have HMI : Hid (∀ (G : Nat) (A3 : Option Addr) (c3 : Nat) (w' : World), W2.heap.size ≤ G → Has w' G 25 #[.int .i64 h, .slice A3 n c3, .slice none 0 0] → RowF w' w.heap.size (A3, n, c3) p.free → Below W2.heap.size W2 w' → M ⟨#[(.agg #[.int .i64 h, .slice A n c, .slice B m d]), .pointer (some ⟨w.heap.size, 0, none⟩), .pointer (some ⟨w.heap.size + 1, 0, none⟩), .pointer (some ⟨G, 0, none⟩), undef, undef, .pointer (some ⟨w.heap.size, 0, none⟩), .int .i64 h, .pointer (some ⟨w.heap.size, 1, none⟩), .slice A n c, .slice A3 n c3, .agg #[.int .i64 h, .slice A3 n c3, .slice none 0 0], undef, undef, undef, undef, undef, undef, undef, undef, undef, undef, undef, undef, undef, undef, undef, undef, undef, undef, undef, undef], []⟩ w') := Lib.hid (fun G A3 c3 w' h1 h2 h3 h4 => by rw [hM]; exact ⟨G, A3, c3, h1, h2, h3, h4, rfl⟩)
  refine wp_held (fun w' : World => Below W2.heap.size W2 w') M hmx ?_ ?_
  · have hS0 : (fun w' : World => Below W2.heap.size W2 w') W2.drew := (Below.refl _ _).drew
    refine wpAnyH_take (i := 0) (v := .pointer (some ⟨w.heap.size, 0, none⟩)) (lit rfl) (by kernel_rfl) (by kernel_rfl) (by kernel_rfl) (fun _ _ _ h => h) (Or.inl ⟨by rfl, ?_⟩) hS0 ?_
    · rintro w6 sb
      go_simp
    simp only [Act.put, List.setIfInBounds_toArray, List.set_cons_zero, List.set_cons_succ]
    refine wpAnyH_take (i := 1) (v := .int .i64 h) (lit rfl) (by kernel_rfl) (by kernel_rfl) (by kernel_rfl) (fun _ _ _ h => h) (Or.inl ⟨by rfl, ?_⟩) hS0 ?_
    · rintro w6 sb
      have a0 := (HX2.out.below sb HX2.out.lt).cell 0
      have a1 := (HX2.out.below sb HX2.out.lt).cell 1
      have a2 := (HX2.out.below sb HX2.out.lt).cell 2
      go_simp
    simp only [Act.put, List.setIfInBounds_toArray, List.set_cons_zero, List.set_cons_succ]
    refine wpAnyH_take (i := 2) (v := .pointer (some ⟨w.heap.size, 1, none⟩)) (lit rfl) (by kernel_rfl) (by kernel_rfl) (by kernel_rfl) (fun _ _ _ h => h) (Or.inl ⟨by rfl, ?_⟩) hS0 ?_
    · rintro w6 sb
      go_simp
    simp only [Act.put, List.setIfInBounds_toArray, List.set_cons_zero, List.set_cons_succ]
    refine wpAnyH_take (i := 3) (v := .slice A n c) (lit rfl) (by kernel_rfl) (by kernel_rfl) (by kernel_rfl) (fun _ _ _ h => h) (Or.inl ⟨by rfl, ?_⟩) hS0 ?_
    · rintro w6 sb
      have a0 := (HX2.out.below sb HX2.out.lt).cell 0
      have a1 := (HX2.out.below sb HX2.out.lt).cell 1
      have a2 := (HX2.out.below sb HX2.out.lt).cell 2
      go_simp
    simp only [Act.put, List.setIfInBounds_toArray, List.set_cons_zero, List.set_cons_succ]
    refine wpAnyH_ready (rs := [4, 6]) (by kernel_rfl) (by simp) ?_
    refine AllReadyH.cons (lit rfl) (fun K5 hK5 => ?_) (AllReadyH.cons (lit rfl) (fun K5 hK5 => ?_) AllReadyH.nil)
    · refine step_open rfl ?_
      go_simp
      go_at_call 28
      (with_reducible refine (HCL.out _ hS0).mono ?_)
      rintro e20 w20 ⟨A3, c3, rfl, o20, b20⟩
      rw [HNL.out] at o20
      try simp only [HNL.out]
      have s20 : (fun w' : World => Below W2.heap.size W2 w') w20 := hS0.trans (b20.mono (Nat.le_refl _))
      refine hK5.out _ _ s20 (fun _ => ?_)
      clear hK5 K5
      try simp only [HNL.out]
      refine wpAnyH_take (i := 5) (v := .agg #[.int .i64 h, .slice A3 n c3, .slice none 0 0]) (lit rfl) (by kernel_rfl) (by kernel_rfl) (by kernel_rfl) (fun _ _ _ h => h) (Or.inl ⟨by rfl, ?_⟩) s20 ?_
      · rintro w6 sb
        go_simp
      simp only [Act.put, List.setIfInBounds_toArray, List.set_cons_zero, List.set_cons_succ]
      refine wpAnyH_ready (rs := [6]) (by kernel_rfl) (by simp) ?_
      refine AllReadyH.cons (lit rfl) (fun K5 hK5 => ?_) AllReadyH.nil
      refine step_open rfl ?_
      go_simp
      obtain ⟨w21, hw21⟩ : ∃ x, w20.alloc (.cells #[.int .i64 0, .slice none 0 0, .slice none 0 0] 25) = x := ⟨_, rfl⟩
      have hb21 : Has w21 w20.heap.size 25 #[.int .i64 0, .slice none 0 0, .slice none 0 0] := hw21 ▸ Has.made _ _ _
      have s21 : (fun w' : World => Below W2.heap.size W2 w') w21 := hw21 ▸ s20.alloc s20.size _
      have r21 : RowF w21 w.heap.size (A3, n, c3) p.free := ((RowF.of_own o20).low HSZ.out.1).below (hw21 ▸ (Below.refl _ _).alloc (Nat.le_refl _) _)
      have hg21 : W2.heap.size ≤ w20.heap.size := s20.size
      obtain ⟨G, hG⟩ : ∃ G, w20.heap.size = G := ⟨_, rfl⟩
      rw [hw21]
      rw [hG] at hb21 hg21 ⊢
      refine hK5.out _ _ s21 (fun _ => ?_)
      clear hK5 K5
      try simp only [Act.put, List.setIfInBounds_toArray, List.set_cons_zero, List.set_cons_succ]
      have g0 := hb21.cell 0
      have g1 := hb21.cell 1
      have g2 := hb21.cell 2
      have f0 := hb21.free 0
      have f1 := hb21.free 1
      have f2 := hb21.free 2
      refine wpAnyH_ready (rs := [7]) (by kernel_rfl) (by simp) ?_
      refine AllReadyH.cons (lit rfl) (fun K5 hK5 => ?_) AllReadyH.nil
      refine step_open rfl ?_
      go_simp
      have hk0 := ((hb21.store 0 (.int .i64 h)).store 1 (.slice A3 n c3)).store 2 (.slice none 0 0)
      have r22 := ((r21.store hb21 (by decide) 0 (.int .i64 h)).store (hb21.store 0 (.int .i64 h)) (by decide) 1 (.slice A3 n c3)).store ((hb21.store 0 (.int .i64 h)).store 1 (.slice A3 n c3)) (by decide) 2 (.slice none 0 0)
      have s22 := ((s21.setCell (p := ⟨G, 0, none⟩) hg21 (.int .i64 h)).setCell (p := ⟨G, 1, none⟩) hg21 (.slice A3 n c3)).setCell (p := ⟨G, 2, none⟩) hg21 (.slice none 0 0)
      refine hK5.out _ _ s22 (fun _ => ?_)
      clear hK5 K5
      refine wpAnyH_done (by kernel_rfl) ?_ _
      exact HMI.out G A3 c3 _ hg21 (by simpa using hk0) r22 s22
    · refine step_open rfl ?_
      go_simp
      obtain ⟨w20, hw20⟩ : ∃ x, (W2.alloc (.cells #[.int .i64 0, .slice none 0 0, .slice none 0 0] 25)).drew = x := ⟨_, rfl⟩
      have hb20 : Has w20 W2.heap.size 25 #[.int .i64 0, .slice none 0 0, .slice none 0 0] := hw20 ▸ (Has.made W2 _ _).drew
      have s20 : (fun w' : World => Below W2.heap.size W2 w') w20 := hw20 ▸ ((Below.refl _ W2).alloc (Nat.le_refl _) _).drew
      have hs20 : W2.heap.size < w20.heap.size := hb20.lt
      rw [hw20]
      refine hK5.out _ _ s20 (fun _ => ?_)
      clear hK5 K5
      try simp only [Act.put, List.setIfInBounds_toArray, List.set_cons_zero, List.set_cons_succ]
      refine wpAnyH_ready (rs := [4]) (by kernel_rfl) (by simp) ?_
      refine AllReadyH.cons (lit rfl) (fun K5 hK5 => ?_) AllReadyH.nil
      refine step_open rfl ?_
      go_simp
      go_at_call 28
      (with_reducible refine (HCL.out _ s20).mono ?_)
      rintro e21 w21 ⟨A3, c3, rfl, o21, b21⟩
      rw [HNL.out] at o21
      try simp only [HNL.out]
      have s21 : (fun w' : World => Below W2.heap.size W2 w') w21 := s20.trans (b21.mono s20.size)
      have hb21 := hb20.below b21 hb20.lt
      have r21 : RowF w21 w.heap.size (A3, n, c3) p.free := (RowF.of_own o21).low (Nat.le_trans HSZ.out.1 s20.size)
      obtain ⟨G, hG⟩ : ∃ G, W2.heap.size = G := ⟨_, rfl⟩
      have hg21 : W2.heap.size ≤ G := Nat.le_of_eq hG
      rw [hG] at hb21 ⊢
      refine hK5.out _ _ s21 (fun _ => ?_)
      clear hK5 K5
      try simp only [Act.put, List.setIfInBounds_toArray, List.set_cons_zero, List.set_cons_succ]
      refine wpAnyH_take (i := 5) (v := .agg #[.int .i64 h, .slice A3 n c3, .slice none 0 0]) (lit rfl) (by kernel_rfl) (by kernel_rfl) (by kernel_rfl) (fun _ _ _ h => h) (Or.inl ⟨by rfl, ?_⟩) s21 ?_
      · rintro w6 sb
        go_simp
      simp only [Act.put, List.setIfInBounds_toArray, List.set_cons_zero, List.set_cons_succ]
      have g0 := hb21.cell 0
      have g1 := hb21.cell 1
      have g2 := hb21.cell 2
      have f0 := hb21.free 0
      have f1 := hb21.free 1
      have f2 := hb21.free 2
      refine wpAnyH_ready (rs := [7]) (by kernel_rfl) (by simp) ?_
      refine AllReadyH.cons (lit rfl) (fun K5 hK5 => ?_) AllReadyH.nil
      refine step_open rfl ?_
      go_simp
      have hk0 := ((hb21.store 0 (.int .i64 h)).store 1 (.slice A3 n c3)).store 2 (.slice none 0 0)
      have r22 := ((r21.store hb21 (by decide) 0 (.int .i64 h)).store (hb21.store 0 (.int .i64 h)) (by decide) 1 (.slice A3 n c3)).store ((hb21.store 0 (.int .i64 h)).store 1 (.slice A3 n c3)) (by decide) 2 (.slice none 0 0)
      have s22 := ((s21.setCell (p := ⟨G, 0, none⟩) hg21 (.int .i64 h)).setCell (p := ⟨G, 1, none⟩) hg21 (.slice A3 n c3)).setCell (p := ⟨G, 2, none⟩) hg21 (.slice none 0 0)
      refine hK5.out _ _ s22 (fun _ => ?_)
      clear hK5 K5
      refine wpAnyH_done (by kernel_rfl) ?_ _
      exact HMI.out G A3 c3 _ hg21 (by simpa using hk0) r22 s22
  · intro a w' hMa
    rw [hM] at hMa
    obtain ⟨G, A3, c3, hG, hbx, hfr, hbl, rfl⟩ := hMa
    refine hK _ _ ?_
    have c2 := (HX2.out.below hbl HX2.out.lt).cell 2
    have HGG := Lib.hid hG
    have HST : Hid (OwL w W2 w' G h A3 n c3 p (.slice none 0 0) [] 0) := Lib.hid ⟨rfl, hbx, hfr, World.ownsRow_nil _ _ _ _, fun i hi => absurd hi (Nat.not_lt_zero _), hbl⟩
    have HLW : Hid (∀ x : World, Below W2.heap.size W2 x → w.heap.size ≤ x.heap.size) := Lib.hid (fun x b => Nat.le_trans HSZ.out.1 b.size)
    clear hG hbx hfr hbl hM HMI HCL
    go_wp2
    go_loopw [15] (fun i wr => ∃ (k : Nat) (v : Value) (ss : List Sl13), k ≤ m ∧ i = .int .i64 (k : Int) ∧ OwL w W2 wr G h A3 n c3 p v ss k) (fun i _ => m - (intOf i).toNat)
    case atStart => exact ⟨0, _, [], Nat.zero_le _, rfl, HST.out⟩
    case round =>
      obtain ⟨k, v, ss, hk, rfl, hS⟩ := hrel
      obtain ⟨Av, cv, rfl, hv1, hv2⟩ := own_by13 hS.own
      have HS := Lib.hid hS
      by_cases hlt : k < m
      · obtain ⟨b, off, rfl, hbl, hel⟩ := HP2.out.wait.reads (by omega)
        have hkl : k < p.wait.length := by have := HM.out; omega
        obtain ⟨⟨t, xs⟩, hx⟩ : ∃ x, p.wait[k]? = some x := ⟨_, List.getElem?_eq_getElem hkl⟩
        obtain ⟨d1, A2, n2, c2, d2, hr2⟩ := hel k _ hx
        have d3 : wr.cell? ⟨b, off + k * 2, none⟩ = some (.int .u64 (t : Int)) := (hS.bel.cell (p := ⟨b, off + k * 2, none⟩) hbl).trans d1
        have d4 : wr.cell? ⟨b, off + k * 2 + 1, none⟩ = some (.slice A2 n2 c2) := (hS.bel.cell (p := ⟨b, off + k * 2 + 1, none⟩) hbl).trans d2
        have HKL := Lib.hid hkl
        have HXS := Lib.hid (getW_at hx)
        have HN2 : Hid (xs.length = n2) := Lib.hid hr2.len.symm
        have hn2 : n2 ≤ 10000 := by
          have h1 := congrArg List.length (catTo_more hx)
          have h2 := catTo_len (l := p.wait) (k + 1)
          rw [List.length_append] at h1
          have h3 := HN2.out
          have h4 := HSM.out
          simp only at h1
          omega
        have k0 : (0 : Int) ≤ (k : Int) := by omega
        have k1 : (k : Int) < (m : Int) := by omega
        obtain ⟨wb, hwb⟩ : ∃ x, wr.alloc (.cells #[.int .u64 (t : Int), .slice A2 n2 c2] 56) = x := ⟨_, rfl⟩
        have bwb : Below wr.heap.size wr wb := hwb ▸ (Below.refl _ wr).alloc (Nat.le_refl _) _
        have HSB := Lib.hid (hS.below bwb)
        have HBX : Hid (Has wb wr.heap.size 56 #[.int .u64 (t : Int), .slice A2 n2 c2]) := Lib.hid (hwb ▸ Has.made _ _ _)
        have HCB : Hid (∀ w', Below wb.heap.size wb w' → (fun w' : World => w'.cell? ⟨G, 2, none⟩ = some (.slice Av k cv) ∧ w'.frozen? ⟨G, 2, none⟩ = false ∧ w'.cell? ⟨wr.heap.size, 0, none⟩ = some (.int .u64 (t : Int)) ∧ w'.cell? ⟨wr.heap.size, 1, none⟩ = some (.slice A2 n2 c2)) w') := Lib.hid (fun w' b => by
          have h1 := HSB.out.box.below b HSB.out.box.lt
          have h2 := HBX.out.below b HBX.out.lt
          exact ⟨h1.cell 2, h1.free 2, h2.cell 0, h2.cell 1⟩)
        have HCL2 : Hid (∀ w1, Below wb.heap.size wb w1 → Calls Try.prog 28 #[.slice A2 n2 c2] w1 (OwnZ xs w1)) := Lib.hid (fun w1 b1 => cloneZ13_any A2 n2 c2 xs w1 ((hr2.below HSB.out.bel).below b1) (by omega))
        have HLW : Hid (w.heap.size ≤ wb.heap.size) := Lib.hid (HLW.out _ HSB.out.bel)
        have hSd : (fun w' : World => w'.cell? ⟨G, 2, none⟩ = some (.slice Av k cv) ∧ w'.frozen? ⟨G, 2, none⟩ = false ∧ w'.cell? ⟨wr.heap.size, 0, none⟩ = some (.int .u64 (t : Int)) ∧ w'.cell? ⟨wr.heap.size, 1, none⟩ = some (.slice A2 n2 c2)) wb.drew := HCB.out _ (Below.refl _ _).drew
        have HWB := Lib.hid hwb
        clear hS hbl hel hx d1 d2 hr2 hkl bwb hwb
        go_wp2
        rename_i K hK
        try rw [HWB.out]
        refine wp_heldQ (fun w' : World => w'.cell? ⟨G, 2, none⟩ = some (.slice Av k cv) ∧ w'.frozen? ⟨G, 2, none⟩ = false ∧ w'.cell? ⟨wr.heap.size, 0, none⟩ = some (.int .u64 (t : Int)) ∧ w'.cell? ⟨wr.heap.size, 1, none⟩ = some (.slice A2 n2 c2)) 11 hmx ?_
        refine wpAnyK_pure (i := 0) (v := .pointer (some ⟨G, 2, none⟩)) rfl (by kernel_rfl) (by kernel_rfl) (by kernel_rfl) (by decide) (fun _ _ _ h => h) (Or.inl ⟨by rfl, ?_⟩) (.inr hSd) ?_
        · intro w6 _
          go_simp
        simp only [Act.put, List.setIfInBounds_toArray, List.set_cons_zero, List.set_cons_succ, List.getElem_toArray, List.getElem_cons_zero]
        refine wpAnyK_take (i := 1) (v := .slice Av k cv) rfl (by kernel_rfl) (by kernel_rfl) (by kernel_rfl) (by kernel_rfl) (by decide) (by kernel_rfl) (fun _ _ _ h => h) (Or.inl ⟨by rfl, ?_⟩) hSd ?_
        · rintro w6 ⟨k1, k2, k3, k4⟩
          go_simp
        simp only [Act.put, List.setIfInBounds_toArray, List.set_cons_zero, List.set_cons_succ, List.getElem_toArray, List.getElem_cons_zero, List.getElem_cons_succ]
        refine wpAnyK_pure (i := 2) (v := .pointer (some ⟨wr.heap.size, 0, none⟩)) rfl (by kernel_rfl) (by kernel_rfl) (by kernel_rfl) (by decide) (fun _ _ _ h => h) (Or.inl ⟨by rfl, ?_⟩) (.inr hSd) ?_
        · intro w6 _
          go_simp
        simp only [Act.put, List.setIfInBounds_toArray, List.set_cons_zero, List.set_cons_succ, List.getElem_toArray, List.getElem_cons_zero, List.getElem_cons_succ]
        refine wpAnyK_take (i := 3) (v := .int .u64 (t : Int)) rfl (by kernel_rfl) (by kernel_rfl) (by kernel_rfl) (by kernel_rfl) (by decide) (by kernel_rfl) (fun _ _ _ h => h) (Or.inl ⟨by rfl, ?_⟩) hSd ?_
        · rintro w6 ⟨k1, k2, k3, k4⟩
          go_simp
        simp only [Act.put, List.setIfInBounds_toArray, List.set_cons_zero, List.set_cons_succ, List.getElem_toArray, List.getElem_cons_zero, List.getElem_cons_succ]
        refine wpAnyK_pure (i := 4) (v := .pointer (some ⟨wr.heap.size, 1, none⟩)) rfl (by kernel_rfl) (by kernel_rfl) (by kernel_rfl) (by decide) (fun _ _ _ h => h) (Or.inl ⟨by rfl, ?_⟩) (.inr hSd) ?_
        · intro w6 _
          go_simp
        simp only [Act.put, List.setIfInBounds_toArray, List.set_cons_zero, List.set_cons_succ, List.getElem_toArray, List.getElem_cons_zero, List.getElem_cons_succ]
        refine wpAnyK_take (i := 5) (v := .slice A2 n2 c2) rfl (by kernel_rfl) (by kernel_rfl) (by kernel_rfl) (by kernel_rfl) (by decide) (by kernel_rfl) (fun _ _ _ h => h) (Or.inl ⟨by rfl, ?_⟩) hSd ?_
        · rintro w6 ⟨k1, k2, k3, k4⟩
          go_simp
        simp only [Act.put, List.setIfInBounds_toArray, List.set_cons_zero, List.set_cons_succ, List.getElem_toArray, List.getElem_cons_zero, List.getElem_cons_succ]
        refine wpAnyK_one (i := 6) (by kernel_rfl) rfl (fun K5 hK5 => ?_)
        go_simp
        go_at_call 28
        (with_reducible refine (HCL2.out _ (Below.refl _ _).drew).mono ?_)
        rintro e20 w20 ⟨A4, c4, rfl, o20, b20'⟩
        rw [HN2.out] at o20
        try simp only [HN2.out]
        have b20 : Below wb.heap.size wb w20 := (Below.refl _ wb).drew.trans b20'
        have h20 : (fun w' : World => w'.cell? ⟨G, 2, none⟩ = some (.slice Av k cv) ∧ w'.frozen? ⟨G, 2, none⟩ = false ∧ w'.cell? ⟨wr.heap.size, 0, none⟩ = some (.int .u64 (t : Int)) ∧ w'.cell? ⟨wr.heap.size, 1, none⟩ = some (.slice A2 n2 c2)) w20 := HCB.out _ b20
        refine hK5.out _ _ (.inr h20) ?_
        clear hK5 K5
        refine wpAnyK_pure (i := 7) (v := .agg #[.int .u64 (t : Int), .slice A4 n2 c4]) rfl (by kernel_rfl) (by kernel_rfl) (by kernel_rfl) (by decide) (fun _ _ _ h => h) (Or.inl ⟨by rfl, ?_⟩) (.inr h20) ?_
        · intro w6 _
          go_simp
        simp only [Act.put, List.setIfInBounds_toArray, List.set_cons_zero, List.set_cons_succ, List.getElem_toArray, List.getElem_cons_zero, List.getElem_cons_succ]
        refine wpAnyK_one (i := 8) (by kernel_rfl) rfl (fun K5 hK5 => ?_)
        go_simp
        obtain ⟨w21, hw21⟩ : ∃ x, w20.alloc (.cells #[.int .u64 (t : Int), .slice A4 n2 c4] 56) = x := ⟨_, rfl⟩
        rw [hw21]
        have b21 : Below wb.heap.size wb w21 := hw21 ▸ b20.alloc b20.size _
        have h21 : (fun w' : World => w'.cell? ⟨G, 2, none⟩ = some (.slice Av k cv) ∧ w'.frozen? ⟨G, 2, none⟩ = false ∧ w'.cell? ⟨wr.heap.size, 0, none⟩ = some (.int .u64 (t : Int)) ∧ w'.cell? ⟨wr.heap.size, 1, none⟩ = some (.slice A2 n2 c2)) w21 := HCB.out _ b21
        refine hK5.out _ _ (.inr h21) ?_
        clear hK5 K5
        refine wpAnyK_one (i := 9) (by kernel_rfl) rfl (fun K5 hK5 => ?_)
        have S21 := HSB.out.below b21
        have R21 : RowF w21 w.heap.size (A4, n2, c4) xs := ((RowF.of_own o20).low HLW.out).below (hw21 ▸ (Below.refl _ w20).alloc (Nat.le_refl _) _)
        have LS : ∀ j y, ([.int .u64 (t : Int), .slice A4 n2 c4] : List Value)[j]? = some y → w21.cell? ((⟨w20.heap.size, 0, none⟩ : Addr).add j) = some y := by
          subst hw21
          intro j y hjy
          rw [add_plain]
          have := (Has.made w20 56 #[.int .u64 (t : Int), .slice A4 n2 c4]).cell (0 + j)
          rw [Nat.zero_add] at this ⊢
          exact this.trans (by simpa using hjy)
        refine step_append_lies _ rfl _ _ 23 rfl W2.heap.size 56 j0 _ 2 32 Try.underlying23 hj jz0 jz1 jz2 rfl (by decide) _ k _ rfl S21.own ⟨w20.heap.size, 0, none⟩ 1 1 [.int .u64 (t : Int), .slice A4 n2 c4] rfl rfl LS (by intro u hu; simp at hu; rcases hu with rfl | rfl <;> rfl) (by decide) (by unfold maxLen; omega) (by omega) S21.bel.size _ rfl ?_
        intro gn capn w5 h7 h8 h9 h10
        have hG5 := S21.box.kept13 S21.own (by decide) h8
        have hB5 : some wr.heap.size ≠ (Value.slice Av k cv).ownBlock := fun e => by have h11 := (HS.out.own.lt _ e.symm).2; omega
        have h22 : (fun w' : World => w'.cell? ⟨G, 2, none⟩ = some (.slice Av k cv) ∧ w'.frozen? ⟨G, 2, none⟩ = false ∧ w'.cell? ⟨wr.heap.size, 0, none⟩ = some (.int .u64 (t : Int)) ∧ w'.cell? ⟨wr.heap.size, 1, none⟩ = some (.slice A2 n2 c2)) w5 := ⟨hG5.cell 2, hG5.free 2, h8.cell h21.2.2.1 hB5, h8.cell h21.2.2.2 hB5⟩
        have SM := S21.more HKL.out (congrArg (·.1) HXS.out) (congrArg (·.2) HXS.out) HGG.out R21 h7 h8
        refine hK5.out _ _ (.inr h22) ?_
        clear hK5 K5
        simp only [Act.put, List.setIfInBounds_toArray, List.set_cons_zero, List.set_cons_succ, List.getElem_toArray, List.getElem_cons_zero, List.getElem_cons_succ]
        refine wpAnyK_pure (i := 10) (v := .pointer (some ⟨G, 2, none⟩)) rfl (by kernel_rfl) (by kernel_rfl) (by kernel_rfl) (by decide) (fun _ _ _ h => h) (Or.inl ⟨by rfl, ?_⟩) (.inr h22) ?_
        · intro w6 _
          go_simp
        simp only [Act.put, List.setIfInBounds_toArray, List.set_cons_zero, List.set_cons_succ, List.getElem_toArray, List.getElem_cons_zero, List.getElem_cons_succ]
        have q1 := h22.1
        have q2 := h22.2.1
        refine wpAnyK_one (i := 11) (by kernel_rfl) rfl (fun K5 hK5 => ?_)
        go_simp
        refine hK5.out _ _ (.inl (by kernel_rfl)) ?_
        clear hK5 K5
        refine wpAnyK_done (by kernel_rfl) ?_ _
        refine hK _ _ ?_
        go_wp2
        go_roundw
        case rel => exact ⟨k + 1, _, _, by omega, by go_num, SM⟩
        case measure => simp [intOf]; omega
      · obtain rfl : k = m := by omega
        have hltI : ¬ (k : Int) < (k : Int) := by omega
        have hz := HZ2.out.below hS.bel HZ2.out.lt
        have d0 := hS.box.cell 0
        have d1 := hS.box.cell 1
        have d2 := hS.box.cell 2
        have g0 := hz.free 0
        have g1 := hz.free 1
        have g2 := hz.free 2
        have h0 := hz.cell 0
        have h1 := hz.cell 1
        have h2 := hz.cell 2
        have HZ := Lib.hid hz
        clear hS hz
        obtain ⟨w3, hw3⟩ : ∃ w3 : World, w3 = wr := ⟨_, rfl⟩
        subst hw3
        go_wp2
        have k1 := ((HZ.out.store 0 (.int .i64 h)).store 1 (.slice A3 n c3)).store 2 (.slice Av k cv)
        have q0 := k1.cell 0
        have q1 := k1.cell 1
        have q2 := k1.cell 2
        refine ⟨rfl, .agg #[.int .i64 h, .slice A3 n c3, .slice Av k cv], ?_, A3, c3, Av, cv, rfl, ⟨ss, ?_⟩, ?_⟩
        · simp at q0 q1 q2
          simp [results, Try.f27, go_sem, q0, q1, q2]
        · exact (((HS.out.pool HM.out HBG.out HSZ.out.1).store HZ.out 0 (.int .i64 h)).store (HZ.out.store 0 (.int .i64 h)) 1 (.slice A3 n c3)).store ((HZ.out.store 0 (.int .i64 h)).store 1 (.slice A3 n c3)) 2 (.slice Av k cv)
        · exact (((HBW.out.trans (HS.out.bel.mono HSZ.out.1)).setCell (p := ⟨w.heap.size + 1, 0, none⟩) (Nat.le_succ _) _).setCell (p := ⟨w.heap.size + 1, 1, none⟩) (Nat.le_succ _) _).setCell (p := ⟨w.heap.size + 1, 2, none⟩) (Nat.le_succ _) _
end
end Go.Proofs.Ytoelojlabmconaa
