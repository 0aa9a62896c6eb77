import Derived.Test.YtnponjdnjkegmaaDoorJ16
/- Of a claim's texts, joined: Ney. No statement but in the last. -/
namespace Go.Proofs.YtnponjdnjkegmaaDoor
open Go.RowKit
set_option linter.unusedVariables false

def oneN (leaf : Bool) (ls : List (List UInt8)) : List En := ls.map fun c => (oneE leaf c).1
theorem oneN_few (leaf : Bool) {ls : List (List UInt8)} (h1 : ls.length ≤ 122) (h2 : ∀ c ∈ ls, c.length ≤ 128) (hk : ∀ c ∈ ls, (oneE leaf c).2 = true) : FewN (oneN leaf ls) := by
  refine ⟨by rw [oneN, List.length_map]; omega, fun e he => ?_⟩
  obtain ⟨c, hc, rfl⟩ := List.mem_map.1 he
  rw [one_read leaf c (hk c hc)]
  have := readE_few leaf c
  have := h2 c hc
  omega
theorem oneN_nod {b : List UInt8} (hk : ∀ c ∈ (unpN b).2.1, (oneE (leafN b) c).2 = true) : oneN (leafN b) (unpN b).2.1 = nodN b :=
  List.map_congr_left fun c hc => one_read (leafN b) c (hk c hc)
theorem kind_pos {b : List UInt8} (h : (unpN b).2.2 = 0) : (unpN b).1 ≠ 0 := (unpN_ok h).2.1.1
theorem kind_two {b : List UInt8} (h : (unpN b).2.2 = 0) : ((unpN b).1 = 1 ∨ (unpN b).1 = 2) ↔ ¬ 2 < (unpN b).1.toNat := by
  have h0 := kind_pos h
  generalize (unpN b).1 = k at *
  have hk : k.toNat ≠ 0 := fun e => h0 (UInt8.toNat_inj.1 (by simpa using e))
  constructor
  · rintro (rfl | rfl) <;> decide
  · intro h2
    by_cases h1 : k.toNat = 1
    · exact .inl (UInt8.toNat_inj.1 (by simpa using h1))
    · exact .inr (UInt8.toNat_inj.1 (by have : k.toNat = 2 := by omega
                                        simpa using this))
theorem getN_bad {b : List UInt8} (h : (unpN b).2.2 = 0) (hb : ¬ ∀ c ∈ (unpN b).2.1, (oneE (leafN b) c).2 = true) : getN b = (false, [], 11) := by
  by_cases hk : (unpN b).1 = 1 ∨ (unpN b).1 = 2
  · exact getN_no h hk (fun hh => hb (cells_read.1 hh.2))
  · exact getN_kind h hk
theorem getN_all {b : List UInt8} (h : (unpN b).2.2 = 0) (hb : ∀ c ∈ (unpN b).2.1, (oneE (leafN b) c).2 = true) :
    getN b = if checkN (leafN b) (oneN (leafN b) (unpN b).2.1) ∧ ¬ 2 < (unpN b).1.toNat then (leafN b, oneN (leafN b) (unpN b).2.1, 0) else (false, [], 11) := by
  rw [oneN_nod hb]
  by_cases hk : (unpN b).1 = 1 ∨ (unpN b).1 = 2
  · have h2 := (kind_two h).1 hk
    by_cases hc : checkN (leafN b) (nodN b)
    · rw [if_pos ⟨hc, h2⟩]
      exact getN_yes h hk ⟨hc, cells_read.2 hb⟩
    · rw [if_neg (fun hh => hc hh.1)]
      exact getN_no h hk (fun hh => hc hh.1)
  · rw [if_neg (fun hh => hk ((kind_two h).2 hh.2))]
    exact getN_kind h hk
theorem box_rnode (w : World) : ∃ W, w.alloc (.cells #[.bool false, .slice none 0 0] 29) = W ∧ Below w.heap.size w W ∧ Has W w.heap.size 29 #[.bool false, .slice none 0 0] := ⟨_, rfl, (Below.refl _ w).alloc (Nat.le_refl _) _, Has.made w _ _⟩
theorem rget_end {w w1 : World} {A : Option Addr} {n c : Nat} (leaf : Bool) (hb : Below w.heap.size w w1) (hB : Has w1 w.heap.size 29 #[.bool false, .slice none 0 0]) :
    Below w.heap.size w ((w1.setCell ⟨w.heap.size, 0, none⟩ (.bool leaf)).setCell ⟨w.heap.size, 1, none⟩ (.slice A n c)) ∧ Has ((w1.setCell ⟨w.heap.size, 0, none⟩ (.bool leaf)).setCell ⟨w.heap.size, 1, none⟩ (.slice A n c)) w.heap.size 29 #[.bool leaf, .slice A n c] := by
  refine ⟨(hb.setCell (p := ⟨w.heap.size, 0, none⟩) (by show w.heap.size ≤ w.heap.size; omega) _).setCell (p := ⟨w.heap.size, 1, none⟩) (by show w.heap.size ≤ w.heap.size; omega) _, ?_⟩
  have := (hB.store 0 (.bool leaf)).store 1 (.slice A n c)
  simpa using this
theorem cellsN_one (leaf : Bool) {ls : List (List UInt8)} {k : Nat} (hk : k < ls.length) : cellsN ((oneN leaf ls).take (k + 1)) = cellsN ((oneN leaf ls).take k) ++ enC (oneE leaf ls[k]).1 := by
  have hk2 : k < (oneN leaf ls).length := by simpa [oneN] using hk
  rw [List.take_succ_eq_append_getElem hk2, cellsN_app]
  simp [cellsN, oneN]
theorem NodA.of_ownL {w : World} {t : TypeId} {base n : Nat} {v : Value} {l : List En} (h : w.ownsRow base t 5 v n (cellsN l)) (hs : ∀ e ∈ l, e.k.length ≤ maxLen ∧ e.d.length ≤ maxLen) : ∃ A c, v = .slice A n c ∧ NodA w A n c l ∧ ∀ a, A = some a → base ≤ a.block := by
  obtain ⟨A, c, rfl, hN⟩ := NodA.of_ownT h hs
  refine ⟨A, c, rfl, hN, fun a ha => ?_⟩
  subst ha
  rcases h.2 with ⟨hv, _⟩ | ⟨g, cap, cur, hv, h1, _⟩
  · cases hv
  · injection hv with hA
    injection hA with hA
    rw [hA]
    exact h1

set_option maxRecDepth 100000 in
set_option maxHeartbeats 4000000 in
theorem r8Get_er (s : ByteArray) (w : World) (hs : s.size ≤ 1000000) (he : (unpN s.data.toList).2.2 ≠ 0) :
    Calls Tryd.prog 21 #[.string s] w (GetN (false, [], (unpN s.data.toList).2.2) w) := by
  have hz := zero_rnode
  obtain ⟨W, hW, hb, hh⟩ := box_rnode w
  have HU := Lib.hid (r7Unpack_any s W hs)
  have HB := Lib.hid hb
  have HH := Lib.hid hh
  obtain ⟨k, ls, er, hu⟩ : ∃ k ls er, unpN s.data.toList = (k, ls, er) := ⟨_, _, _, rfl⟩
  rw [hu] at HU he ⊢
  simp only at he ⊢
  have he2 : (er != 0) = true := by simpa using he
  clear hb hh hu he
  go_enter Tryd.func21, Tryd.ntmps21
  go_wp2_with (go_at_call 37; (try rw [hW]); (with_reducible refine HU.out.mono ?_); rintro r1 w1 ⟨A1, n1, c1, rfl, k1, b1⟩; have X1 := HH.out.below b1 HH.out.lt; have f0 := X1.free 0; have f1 := X1.free 1; have c0 := X1.cell 0; have c1 := X1.cell 1; have X1 := Lib.hid X1; have B1 := Lib.hid (below_step HB.out b1); clear k1 b1)
  have hE := rget_end (A := none) (n := 0) (c := 0) false B1.out X1.out
  have q0 := hE.2.cell 0
  have q1 := hE.2.cell 1
  refine ⟨rfl, .tuple #[.agg #[.bool false, .slice none 0 0], .int .i64 er], ?_, none, 0, 0, rfl, NodA.none_ _, hE.1⟩
  simp at q0 q1
  simp [results, Tryd.f21, go_sem, q0, q1]

set_option maxRecDepth 100000 in
set_option maxHeartbeats 16000000 in
theorem r8Get_ok (s : ByteArray) (w : World) (hs : s.size ≤ 1000000) (he : (unpN s.data.toList).2.2 = 0) :
    Calls Tryd.prog 21 #[.string s] w (GetN (getN s.data.toList) w) := by
  have hmx : Tryd.prog.follows .mixedOrders = true := by kernel_rfl
  obtain ⟨j0, hj, jz0, jz1, jz2⟩ := info_parts reinfo
  have hz := zero_rnode
  have hze := zero_re
  obtain ⟨_, _, _, hcs, hcn⟩ := unpN_ok he
  have HBAD0 := Lib.hid (getN_bad he)
  have HALL := Lib.hid (getN_all he)
  obtain ⟨W, hW, hb, hh⟩ := box_rnode w
  have HU := Lib.hid (r7Unpack_any s W hs)
  have HB := Lib.hid hb
  have HH := Lib.hid hh
  have hlf : ((((unpN s.data.toList).1.toNat : Nat) : Int) == 1) = leafN s.data.toList := by
    unfold leafN
    generalize (unpN s.data.toList).1 = k
    by_cases h : k = 1
    · subst h; rfl
    · rw [decide_eq_false h]
      refine beq_false_of_ne (fun e => h (UInt8.toNat_inj.1 ?_))
      have : (1 : UInt8).toNat = 1 := rfl
      omega
  obtain ⟨ans, hans⟩ : ∃ ans, getN s.data.toList = ans := ⟨_, rfl⟩
  rw [hans] at HBAD0 HALL ⊢
  obtain ⟨leaf, hleaf⟩ : ∃ leaf, leafN s.data.toList = leaf := ⟨_, rfl⟩
  rw [hleaf] at hlf HBAD0 HALL
  obtain ⟨kd, ls, er, hu⟩ : ∃ kd ls er, unpN s.data.toList = (kd, ls, er) := ⟨_, _, _, rfl⟩
  rw [hu] at HU he hcs hcn hlf HBAD0 HALL
  simp only at he hcs hcn hlf HBAD0 HALL
  subst he
  have HCS := Lib.hid hcs
  have HON0 : Hid (∀ c w, c ∈ ls → Calls Tryd.prog 38 #[.bool leaf, .string ⟨c.toArray⟩] w (ROneEnd (oneE leaf c) w)) := Lib.hid (fun c w hc => r8one_any leaf c w (by have := hcs c hc; omega))
  have HCN := Lib.hid hcn
  clear hb hh hu hcs hans hleaf
  go_enter Tryd.func21, Tryd.ntmps21
  go_wp2_with (go_at_call 37; (try rw [hW]); (with_reducible refine HU.out.mono ?_); rintro r1 w1 ⟨A2, n, c2, rfl, t1, b1⟩; have T1 := Lib.hid t1; have HR := Lib.hid (HH.out.below b1 HH.out.lt); have B1 := Lib.hid (below_step HB.out b1); clear t1 b1)
  have hn : n ≤ 122 := by rw [T1.out.len]; exact HCN.out
  go_loopw [8] (fun i wr => ∃ k : Nat, k ≤ n ∧ i = .int .i64 k ∧ (∀ j (h : j < ls.length), j < k → (oneE leaf ls[j]).2 = true) ∧ ∃ v, Has wr w1.heap.size 29 #[.bool leaf, v] ∧ wr.ownsRow w1.heap.size 58 5 v k (cellsN ((oneN leaf ls).take k)) ∧ Below w1.heap.size w1 wr) (fun i _ => n - (intOf i).toNat)
  case atStart => exact ⟨0, Nat.zero_le _, rfl, fun j _ h => absurd h (by omega), .slice none 0 0, Has.made w1 _ _, ⟨rfl, .inl ⟨rfl, rfl⟩⟩, (Below.refl _ w1).alloc (Nat.le_refl _) _⟩
  case round =>
    obtain ⟨k, hk, rfl, hq0, v, hq1, hq3, hq4⟩ := hrel
    obtain ⟨Av, cv, rfl, hcv1, hcv2⟩ := own_by hq3
    have Q0 := Lib.hid hq0
    have Q1 := Lib.hid hq1
    have Q3 := Lib.hid hq3
    have Q4 := Lib.hid hq4
    by_cases hlt : k < n
    · have hkl : k < ls.length := by rw [← T1.out.len]; exact hlt
      obtain ⟨g, off, rfl, hc⟩ := (T1.out.below Q4.out).at hkl
      have hmem := List.getElem_mem hkl
      have HON := Lib.hid (fun w => HON0.out ls[k] w hmem)
      have NX := Lib.hid (cellsN_one leaf hkl)
      have HBAD : Hid ((oneE leaf ls[k]).2 = false → ans = (false, [], 11)) := Lib.hid (fun h => HBAD0.out (fun hh => by rw [hh _ hmem] at h; cases h))
      have HOK : Hid ((oneE leaf ls[k]).2 = true → ∀ j (h : j < ls.length), j < k + 1 → (oneE leaf ls[j]).2 = true) := Lib.hid (fun h2 j h hj => by
        by_cases e : j = k
        · subst e; exact h2
        · exact Q0.out j h (by omega))
      have hnc : n ≤ 122 := hn
      have i0 : (0 : Int) ≤ (k : Int) := by omega
      have i1 : (k : Int) < (n : Int) := by omega
      clear hq0 hq1 hq3 hq4 hmem
      generalize ls[k] = y at *
      obtain ⟨en, ok, hen⟩ : ∃ en ok, oneE leaf y = (en, ok) := ⟨_, _, rfl⟩
      rw [hen] at HON NX HBAD HOK
      clear hen hkl
      obtain ⟨ek, ed, ef, es, ep⟩ := en
      unfold ROneEnd at HON
      simp only [enV, cstV] at HON
      simp only [enC, cstV] at NX
      simp only at HBAD HOK
      generalize (⟨ed.toArray⟩ : ByteArray) = ed at *
      generalize (⟨ek.toArray⟩ : ByteArray) = ek at *
      generalize (⟨y.toArray⟩ : ByteArray) = sc at *
      have hS0 : (fun w' : World => Has w' w1.heap.size 29 #[.bool leaf, .slice Av k cv] ∧ w'.cell? ⟨g, off + k, none⟩ = some (.string sc)) wr.drew := ⟨Q1.out, hc⟩
      cases ok

      · have HBAD2 := Lib.hid (HBAD.out rfl)
        clear HOK NX HBAD
        go_wp2
        rename_i K hK
        refine wp_held (fun w' : World => Has w' w1.heap.size 29 #[.bool leaf, .slice Av k cv] ∧ w'.cell? ⟨g, off + k, none⟩ = some (.string sc)) K hmx ?_ (fun _ _ h => h)
        refine wpAnyH_take (i := 0) (v := .pointer (some ⟨w1.heap.size, 0, none⟩)) rfl (by kernel_rfl) (by kernel_rfl) (by kernel_rfl) (fun _ _ _ h => h) (Or.inl ⟨by rfl, ?_⟩) hS0 ?_
        · rintro w6 ⟨s1, s2⟩
          go_simp
        simp only [Act.put, List.setIfInBounds_toArray, List.set_cons_zero, List.set_cons_succ, List.getElem_toArray, List.getElem_cons_zero]
        refine wpAnyH_take (i := 1) (v := .bool leaf) rfl (by kernel_rfl) (by kernel_rfl) (by kernel_rfl) (fun _ _ _ h => h) (Or.inl ⟨by rfl, ?_⟩) hS0 ?_
        · rintro w6 ⟨s1, s2⟩
          have d0 := s1.cell 0
          go_simp
        simp only [Act.put, List.setIfInBounds_toArray, List.set_cons_zero, List.set_cons_succ, List.getElem_toArray, List.getElem_cons_zero, List.getElem_cons_succ]
        refine wpAnyH_take (i := 2) (v := .slice (some ⟨g, off, none⟩) n c2) rfl (by kernel_rfl) (by kernel_rfl) (by kernel_rfl) (fun _ _ _ h => h) (Or.inl ⟨by rfl, ?_⟩) hS0 ?_
        · rintro w6 ⟨s1, s2⟩
          go_simp
        simp only [Act.put, List.setIfInBounds_toArray, List.set_cons_zero, List.set_cons_succ, List.getElem_toArray, List.getElem_cons_zero, List.getElem_cons_succ]
        refine wpAnyH_take (i := 3) (v := .int .i64 (k : Int)) rfl (by kernel_rfl) (by kernel_rfl) (by kernel_rfl) (fun _ _ _ h => h) (Or.inl ⟨by rfl, ?_⟩) hS0 ?_
        · rintro w6 ⟨s1, s2⟩
          go_simp
        simp only [Act.put, List.setIfInBounds_toArray, List.set_cons_zero, List.set_cons_succ, List.getElem_toArray, List.getElem_cons_zero, List.getElem_cons_succ]
        refine wpAnyH_take (i := 4) (v := .pointer (some ⟨g, off + k, none⟩)) rfl (by kernel_rfl) (by kernel_rfl) (by kernel_rfl) (fun _ _ _ h => h) (Or.inl ⟨by rfl, ?_⟩) hS0 ?_
        · rintro w6 ⟨s1, s2⟩
          go_simp
        simp only [Act.put, List.setIfInBounds_toArray, List.set_cons_zero, List.set_cons_succ, List.getElem_toArray, List.getElem_cons_zero, List.getElem_cons_succ]
        refine wpAnyH_take (i := 5) (v := .string sc) rfl (by kernel_rfl) (by kernel_rfl) (by kernel_rfl) (fun _ _ _ h => h) (Or.inl ⟨by rfl, ?_⟩) hS0 ?_
        · rintro w6 ⟨s1, s2⟩
          go_simp
        simp only [Act.put, List.setIfInBounds_toArray, List.set_cons_zero, List.set_cons_succ, List.getElem_toArray, List.getElem_cons_zero, List.getElem_cons_succ]
        refine wpAnyH_ready (rs := [6, 10]) (by kernel_rfl) (by simp) ?_
        refine AllReadyH.cons rfl (fun K5 hK5 => ?_) (AllReadyH.cons rfl (fun K5 hK5 => ?_) AllReadyH.nil)
        · go_simp
          go_at_call 38
          (with_reducible refine (HON.out _).mono ?_)
          rintro r4 w4 ⟨rfl, b4⟩
          have B4 : Below wr.heap.size wr w4 := (Below.refl _ wr).drew.trans b4
          have hS4 : (fun w' : World => Has w' w1.heap.size 29 #[.bool leaf, .slice Av k cv] ∧ w'.cell? ⟨g, off + k, none⟩ = some (.string sc)) w4 := ⟨Q1.out.below B4 Q1.out.lt, cell_below (w := wr) hS0.2 B4⟩
          refine hK5.out _ _ hS4 (fun _ => ?_)
          clear hK5 K5
          refine wpAnyH_take (i := 7) (v := .tuple #[.agg #[.string ek, .string ed, .bool ef, .int .i64 es, .int .i64 ep], .bool false]) rfl (by kernel_rfl) (by kernel_rfl) (by kernel_rfl) (fun _ _ _ h => h) (Or.inl ⟨by rfl, ?_⟩) hS4 ?_
          · rintro w6 ⟨s1, s2⟩
            go_simp
          simp only [Act.put, List.setIfInBounds_toArray, List.set_cons_zero, List.set_cons_succ, List.getElem_toArray, List.getElem_cons_zero, List.getElem_cons_succ]
          refine wpAnyH_take (i := 8) (v := .agg #[.string ek, .string ed, .bool ef, .int .i64 es, .int .i64 ep]) rfl (by kernel_rfl) (by kernel_rfl) (by kernel_rfl) (fun _ _ _ h => h) (Or.inl ⟨by rfl, ?_⟩) hS4 ?_
          · rintro w6 ⟨s1, s2⟩
            go_simp
          simp only [Act.put, List.setIfInBounds_toArray, List.set_cons_zero, List.set_cons_succ, List.getElem_toArray, List.getElem_cons_zero, List.getElem_cons_succ]
          refine wpAnyH_take (i := 9) (v := .bool false) rfl (by kernel_rfl) (by kernel_rfl) (by kernel_rfl) (fun _ _ _ h => h) (Or.inl ⟨by rfl, ?_⟩) hS4 ?_
          · rintro w6 ⟨s1, s2⟩
            go_simp
          simp only [Act.put, List.setIfInBounds_toArray, List.set_cons_zero, List.set_cons_succ, List.getElem_toArray, List.getElem_cons_zero, List.getElem_cons_succ]
          refine wpAnyH_ready (rs := [10]) (by kernel_rfl) (by simp) ?_
          refine AllReadyH.cons rfl (fun K5 hK5 => ?_) AllReadyH.nil
          go_simp
          obtain ⟨w5, hw5⟩ : ∃ w5, w4.alloc (.cells #[.string ⟨#[]⟩, .string ⟨#[]⟩, .bool false, .int .i64 0, .int .i64 0] 58) = w5 := ⟨_, rfl⟩
          try rw [hw5]
          have E5 : Has w5 w4.heap.size 58 #[.string ⟨#[]⟩, .string ⟨#[]⟩, .bool false, .int .i64 0, .int .i64 0] := hw5 ▸ Has.made w4 _ _
          have B5 : Below wr.heap.size wr w5 := hw5 ▸ B4.alloc B4.size _
          have hS5 : (fun w' : World => Has w' w1.heap.size 29 #[.bool leaf, .slice Av k cv] ∧ w'.cell? ⟨g, off + k, none⟩ = some (.string sc)) w5 := ⟨Q1.out.below B5 Q1.out.lt, cell_below (w := wr) hS0.2 B5⟩
          obtain ⟨E, hE⟩ : ∃ E, w4.heap.size = E := ⟨_, rfl⟩
          rw [hE] at E5 ⊢
          have hEr : wr.heap.size ≤ E := by rw [← hE]; exact B4.size
          refine hK5.out _ _ hS5 (fun _ => ?_)
          clear hK5 K5
          refine wpAnyH_ready (rs := [11]) (by kernel_rfl) (by simp) ?_
          refine AllReadyH.cons rfl (fun K5 hK5 => ?_) AllReadyH.nil
          go_simp
          have e0 := E5.cell 0
          have e1 := E5.cell 1
          have e2 := E5.cell 2
          have e3 := E5.cell 3
          have e4 := E5.cell 4
          have f0 := E5.free 0
          have f1 := E5.free 1
          have f2 := E5.free 2
          have f3 := E5.free 3
          have f4 := E5.free 4
          go_simp
          have E6 := E5.setE (.string ek) (.string ed) (.bool ef) (.int .i64 es) (.int .i64 ep)
          have B6 := below_setE B5 hEr (.string ek) (.string ed) (.bool ef) (.int .i64 es) (.int .i64 ep)
          have hS6 : (fun w' : World => Has w' w1.heap.size 29 #[.bool leaf, .slice Av k cv] ∧ w'.cell? ⟨g, off + k, none⟩ = some (.string sc)) (stE5 w5 E (.string ek) (.string ed) (.bool ef) (.int .i64 es) (.int .i64 ep)) := ⟨Q1.out.below B6 Q1.out.lt, cell_below (w := wr) hS0.2 B6⟩
          unfold stE5 at E6 B6 hS6
          refine hK5.out _ _ hS6 (fun _ => ?_)
          clear hK5 K5
          refine wpAnyH_ready (rs := [12]) (by kernel_rfl) (by simp) ?_
          refine AllReadyH.cons rfl (fun K5 hK5 => ?_) AllReadyH.nil
          go_simp
          refine hK5.out _ _ hS6 (fun _ => ?_)
          clear hK5 K5
          refine wpAnyH_done (by kernel_rfl) ?_ _
          refine hK _ _ ?_
          clear e0 e1 e2 e3 e4 f0 f1 f2 f3 f4
          generalize ((((w5.setCell ⟨E, 0, none⟩ (.string ek)).setCell ⟨E, 1, none⟩ (.string ed)).setCell ⟨E, 2, none⟩ (.bool ef)).setCell ⟨E, 3, none⟩ (.int .i64 es)).setCell ⟨E, 4, none⟩ (.int .i64 ep) = w6 at *
          have XR := HR.out.below (below_step Q4.out B6) HR.out.lt
          have x0 := XR.cell 0
          have x1 := XR.cell 1
          have y0 := XR.free 0
          have y1 := XR.free 1
          have XR := Lib.hid XR
          have BR := Lib.hid (below_step B1.out (below_step Q4.out B6))
          clear E6 B6 hS6 B5 E5 hS4
          go_wp2
          have hE2 := rget_end (A := none) (n := 0) (c := 0) false BR.out XR.out
          have q0 := hE2.2.cell 0
          have q1 := hE2.2.cell 1
          refine ⟨rfl, .tuple #[.agg #[.bool false, .slice none 0 0], .int .i64 11], ?_, by have hh := HBAD2.out; subst hh; exact ⟨none, 0, 0, rfl, NodA.none_ _, hE2.1⟩⟩
          simp at q0 q1
          simp [results, Tryd.f21, go_sem, q0, q1]
        · go_simp
          obtain ⟨w4, hw4⟩ : ∃ w4, (wr.alloc (.cells #[.string ⟨#[]⟩, .string ⟨#[]⟩, .bool false, .int .i64 0, .int .i64 0] 58)).drew = w4 := ⟨_, rfl⟩
          try rw [hw4]
          have B3 : Below wr.heap.size wr w4 := hw4 ▸ ((Below.refl _ wr).alloc (Nat.le_refl _) _).drew
          have E4 : Has w4 wr.heap.size 58 #[.string ⟨#[]⟩, .string ⟨#[]⟩, .bool false, .int .i64 0, .int .i64 0] := hw4 ▸ (Has.made wr _ _).drew
          have hS3 : (fun w' : World => Has w' w1.heap.size 29 #[.bool leaf, .slice Av k cv] ∧ w'.cell? ⟨g, off + k, none⟩ = some (.string sc)) w4 := ⟨Q1.out.below B3 Q1.out.lt, cell_below (w := wr) hS0.2 B3⟩
          refine hK5.out _ _ hS3 (fun _ => ?_)
          clear hK5 K5
          refine wpAnyH_ready (rs := [6]) (by kernel_rfl) (by simp) ?_
          refine AllReadyH.cons rfl (fun K5 hK5 => ?_) AllReadyH.nil
          go_simp
          go_at_call 38
          (try rw [hw4])
          (with_reducible refine (HON.out _).mono ?_)
          rintro r5 w5 ⟨rfl, b5⟩
          have B5 : Below wr.heap.size wr w5 := below_step B3 b5
          have hS4 : (fun w' : World => Has w' w1.heap.size 29 #[.bool leaf, .slice Av k cv] ∧ w'.cell? ⟨g, off + k, none⟩ = some (.string sc)) w5 := ⟨Q1.out.below B5 Q1.out.lt, cell_below (w := wr) hS0.2 B5⟩
          have E5 := E4.below b5 E4.lt
          obtain ⟨E, hE⟩ : ∃ E, wr.heap.size = E := ⟨_, rfl⟩
          have hEr : wr.heap.size ≤ E := by omega
          rw [hE] at E5 ⊢
          refine hK5.out _ _ hS4 (fun _ => ?_)
          clear hK5 K5
          refine wpAnyH_take (i := 7) (v := .tuple #[.agg #[.string ek, .string ed, .bool ef, .int .i64 es, .int .i64 ep], .bool false]) rfl (by kernel_rfl) (by kernel_rfl) (by kernel_rfl) (fun _ _ _ h => h) (Or.inl ⟨by rfl, ?_⟩) hS4 ?_
          · rintro w6 ⟨s1, s2⟩
            go_simp
          simp only [Act.put, List.setIfInBounds_toArray, List.set_cons_zero, List.set_cons_succ, List.getElem_toArray, List.getElem_cons_zero, List.getElem_cons_succ]
          refine wpAnyH_take (i := 8) (v := .agg #[.string ek, .string ed, .bool ef, .int .i64 es, .int .i64 ep]) rfl (by kernel_rfl) (by kernel_rfl) (by kernel_rfl) (fun _ _ _ h => h) (Or.inl ⟨by rfl, ?_⟩) hS4 ?_
          · rintro w6 ⟨s1, s2⟩
            go_simp
          simp only [Act.put, List.setIfInBounds_toArray, List.set_cons_zero, List.set_cons_succ, List.getElem_toArray, List.getElem_cons_zero, List.getElem_cons_succ]
          refine wpAnyH_take (i := 9) (v := .bool false) rfl (by kernel_rfl) (by kernel_rfl) (by kernel_rfl) (fun _ _ _ h => h) (Or.inl ⟨by rfl, ?_⟩) hS4 ?_
          · rintro w6 ⟨s1, s2⟩
            go_simp
          simp only [Act.put, List.setIfInBounds_toArray, List.set_cons_zero, List.set_cons_succ, List.getElem_toArray, List.getElem_cons_zero, List.getElem_cons_succ]
          refine wpAnyH_ready (rs := [11]) (by kernel_rfl) (by simp) ?_
          refine AllReadyH.cons rfl (fun K5 hK5 => ?_) AllReadyH.nil
          go_simp
          have e0 := E5.cell 0
          have e1 := E5.cell 1
          have e2 := E5.cell 2
          have e3 := E5.cell 3
          have e4 := E5.cell 4
          have f0 := E5.free 0
          have f1 := E5.free 1
          have f2 := E5.free 2
          have f3 := E5.free 3
          have f4 := E5.free 4
          go_simp
          have E6 := E5.setE (.string ek) (.string ed) (.bool ef) (.int .i64 es) (.int .i64 ep)
          have B6 := below_setE B5 hEr (.string ek) (.string ed) (.bool ef) (.int .i64 es) (.int .i64 ep)
          have hS6 : (fun w' : World => Has w' w1.heap.size 29 #[.bool leaf, .slice Av k cv] ∧ w'.cell? ⟨g, off + k, none⟩ = some (.string sc)) (stE5 w5 E (.string ek) (.string ed) (.bool ef) (.int .i64 es) (.int .i64 ep)) := ⟨Q1.out.below B6 Q1.out.lt, cell_below (w := wr) hS0.2 B6⟩
          unfold stE5 at E6 B6 hS6
          refine hK5.out _ _ hS6 (fun _ => ?_)
          clear hK5 K5
          refine wpAnyH_ready (rs := [12]) (by kernel_rfl) (by simp) ?_
          refine AllReadyH.cons rfl (fun K5 hK5 => ?_) AllReadyH.nil
          go_simp
          refine hK5.out _ _ hS6 (fun _ => ?_)
          clear hK5 K5
          refine wpAnyH_done (by kernel_rfl) ?_ _
          refine hK _ _ ?_
          clear e0 e1 e2 e3 e4 f0 f1 f2 f3 f4
          generalize ((((w5.setCell ⟨E, 0, none⟩ (.string ek)).setCell ⟨E, 1, none⟩ (.string ed)).setCell ⟨E, 2, none⟩ (.bool ef)).setCell ⟨E, 3, none⟩ (.int .i64 es)).setCell ⟨E, 4, none⟩ (.int .i64 ep) = w6 at *
          have XR := HR.out.below (below_step Q4.out B6) HR.out.lt
          have x0 := XR.cell 0
          have x1 := XR.cell 1
          have y0 := XR.free 0
          have y1 := XR.free 1
          have XR := Lib.hid XR
          have BR := Lib.hid (below_step B1.out (below_step Q4.out B6))
          clear E6 B6 hS6 B5 E5 hS4
          go_wp2
          have hE2 := rget_end (A := none) (n := 0) (c := 0) false BR.out XR.out
          have q0 := hE2.2.cell 0
          have q1 := hE2.2.cell 1
          refine ⟨rfl, .tuple #[.agg #[.bool false, .slice none 0 0], .int .i64 11], ?_, by have hh := HBAD2.out; subst hh; exact ⟨none, 0, 0, rfl, NodA.none_ _, hE2.1⟩⟩
          simp at q0 q1
          simp [results, Tryd.f21, go_sem, q0, q1]
      · have HOK2 := Lib.hid (HOK.out rfl)
        clear HBAD HOK
        go_wp2
        rename_i K hK
        refine wp_held (fun w' : World => Has w' w1.heap.size 29 #[.bool leaf, .slice Av k cv] ∧ w'.cell? ⟨g, off + k, none⟩ = some (.string sc)) K hmx ?_ (fun _ _ h => h)
        refine wpAnyH_take (i := 0) (v := .pointer (some ⟨w1.heap.size, 0, none⟩)) rfl (by kernel_rfl) (by kernel_rfl) (by kernel_rfl) (fun _ _ _ h => h) (Or.inl ⟨by rfl, ?_⟩) hS0 ?_
        · rintro w6 ⟨s1, s2⟩
          go_simp
        simp only [Act.put, List.setIfInBounds_toArray, List.set_cons_zero, List.set_cons_succ, List.getElem_toArray, List.getElem_cons_zero]
        refine wpAnyH_take (i := 1) (v := .bool leaf) rfl (by kernel_rfl) (by kernel_rfl) (by kernel_rfl) (fun _ _ _ h => h) (Or.inl ⟨by rfl, ?_⟩) hS0 ?_
        · rintro w6 ⟨s1, s2⟩
          have d0 := s1.cell 0
          go_simp
        simp only [Act.put, List.setIfInBounds_toArray, List.set_cons_zero, List.set_cons_succ, List.getElem_toArray, List.getElem_cons_zero, List.getElem_cons_succ]
        refine wpAnyH_take (i := 2) (v := .slice (some ⟨g, off, none⟩) n c2) rfl (by kernel_rfl) (by kernel_rfl) (by kernel_rfl) (fun _ _ _ h => h) (Or.inl ⟨by rfl, ?_⟩) hS0 ?_
        · rintro w6 ⟨s1, s2⟩
          go_simp
        simp only [Act.put, List.setIfInBounds_toArray, List.set_cons_zero, List.set_cons_succ, List.getElem_toArray, List.getElem_cons_zero, List.getElem_cons_succ]
        refine wpAnyH_take (i := 3) (v := .int .i64 (k : Int)) rfl (by kernel_rfl) (by kernel_rfl) (by kernel_rfl) (fun _ _ _ h => h) (Or.inl ⟨by rfl, ?_⟩) hS0 ?_
        · rintro w6 ⟨s1, s2⟩
          go_simp
        simp only [Act.put, List.setIfInBounds_toArray, List.set_cons_zero, List.set_cons_succ, List.getElem_toArray, List.getElem_cons_zero, List.getElem_cons_succ]
        refine wpAnyH_take (i := 4) (v := .pointer (some ⟨g, off + k, none⟩)) rfl (by kernel_rfl) (by kernel_rfl) (by kernel_rfl) (fun _ _ _ h => h) (Or.inl ⟨by rfl, ?_⟩) hS0 ?_
        · rintro w6 ⟨s1, s2⟩
          go_simp
        simp only [Act.put, List.setIfInBounds_toArray, List.set_cons_zero, List.set_cons_succ, List.getElem_toArray, List.getElem_cons_zero, List.getElem_cons_succ]
        refine wpAnyH_take (i := 5) (v := .string sc) rfl (by kernel_rfl) (by kernel_rfl) (by kernel_rfl) (fun _ _ _ h => h) (Or.inl ⟨by rfl, ?_⟩) hS0 ?_
        · rintro w6 ⟨s1, s2⟩
          go_simp
        simp only [Act.put, List.setIfInBounds_toArray, List.set_cons_zero, List.set_cons_succ, List.getElem_toArray, List.getElem_cons_zero, List.getElem_cons_succ]
        refine wpAnyH_ready (rs := [6, 10]) (by kernel_rfl) (by simp) ?_
        refine AllReadyH.cons rfl (fun K5 hK5 => ?_) (AllReadyH.cons rfl (fun K5 hK5 => ?_) AllReadyH.nil)
        · go_simp
          go_at_call 38
          (with_reducible refine (HON.out _).mono ?_)
          rintro r4 w4 ⟨rfl, b4⟩
          have B4 : Below wr.heap.size wr w4 := (Below.refl _ wr).drew.trans b4
          have hS4 : (fun w' : World => Has w' w1.heap.size 29 #[.bool leaf, .slice Av k cv] ∧ w'.cell? ⟨g, off + k, none⟩ = some (.string sc)) w4 := ⟨Q1.out.below B4 Q1.out.lt, cell_below (w := wr) hS0.2 B4⟩
          refine hK5.out _ _ hS4 (fun _ => ?_)
          clear hK5 K5
          refine wpAnyH_take (i := 7) (v := .tuple #[.agg #[.string ek, .string ed, .bool ef, .int .i64 es, .int .i64 ep], .bool true]) rfl (by kernel_rfl) (by kernel_rfl) (by kernel_rfl) (fun _ _ _ h => h) (Or.inl ⟨by rfl, ?_⟩) hS4 ?_
          · rintro w6 ⟨s1, s2⟩
            go_simp
          simp only [Act.put, List.setIfInBounds_toArray, List.set_cons_zero, List.set_cons_succ, List.getElem_toArray, List.getElem_cons_zero, List.getElem_cons_succ]
          refine wpAnyH_take (i := 8) (v := .agg #[.string ek, .string ed, .bool ef, .int .i64 es, .int .i64 ep]) rfl (by kernel_rfl) (by kernel_rfl) (by kernel_rfl) (fun _ _ _ h => h) (Or.inl ⟨by rfl, ?_⟩) hS4 ?_
          · rintro w6 ⟨s1, s2⟩
            go_simp
          simp only [Act.put, List.setIfInBounds_toArray, List.set_cons_zero, List.set_cons_succ, List.getElem_toArray, List.getElem_cons_zero, List.getElem_cons_succ]
          refine wpAnyH_take (i := 9) (v := .bool true) rfl (by kernel_rfl) (by kernel_rfl) (by kernel_rfl) (fun _ _ _ h => h) (Or.inl ⟨by rfl, ?_⟩) hS4 ?_
          · rintro w6 ⟨s1, s2⟩
            go_simp
          simp only [Act.put, List.setIfInBounds_toArray, List.set_cons_zero, List.set_cons_succ, List.getElem_toArray, List.getElem_cons_zero, List.getElem_cons_succ]
          refine wpAnyH_ready (rs := [10]) (by kernel_rfl) (by simp) ?_
          refine AllReadyH.cons rfl (fun K5 hK5 => ?_) AllReadyH.nil
          go_simp
          obtain ⟨w5, hw5⟩ : ∃ w5, w4.alloc (.cells #[.string ⟨#[]⟩, .string ⟨#[]⟩, .bool false, .int .i64 0, .int .i64 0] 58) = w5 := ⟨_, rfl⟩
          try rw [hw5]
          have E5 : Has w5 w4.heap.size 58 #[.string ⟨#[]⟩, .string ⟨#[]⟩, .bool false, .int .i64 0, .int .i64 0] := hw5 ▸ Has.made w4 _ _
          have B5 : Below wr.heap.size wr w5 := hw5 ▸ B4.alloc B4.size _
          have hS5 : (fun w' : World => Has w' w1.heap.size 29 #[.bool leaf, .slice Av k cv] ∧ w'.cell? ⟨g, off + k, none⟩ = some (.string sc)) w5 := ⟨Q1.out.below B5 Q1.out.lt, cell_below (w := wr) hS0.2 B5⟩
          obtain ⟨E, hE⟩ : ∃ E, w4.heap.size = E := ⟨_, rfl⟩
          rw [hE] at E5 ⊢
          have hEr : wr.heap.size ≤ E := by rw [← hE]; exact B4.size
          refine hK5.out _ _ hS5 (fun _ => ?_)
          clear hK5 K5
          refine wpAnyH_ready (rs := [11]) (by kernel_rfl) (by simp) ?_
          refine AllReadyH.cons rfl (fun K5 hK5 => ?_) AllReadyH.nil
          go_simp
          have e0 := E5.cell 0
          have e1 := E5.cell 1
          have e2 := E5.cell 2
          have e3 := E5.cell 3
          have e4 := E5.cell 4
          have f0 := E5.free 0
          have f1 := E5.free 1
          have f2 := E5.free 2
          have f3 := E5.free 3
          have f4 := E5.free 4
          go_simp
          have E6 := E5.setE (.string ek) (.string ed) (.bool ef) (.int .i64 es) (.int .i64 ep)
          have B6 := below_setE B5 hEr (.string ek) (.string ed) (.bool ef) (.int .i64 es) (.int .i64 ep)
          have hS6 : (fun w' : World => Has w' w1.heap.size 29 #[.bool leaf, .slice Av k cv] ∧ w'.cell? ⟨g, off + k, none⟩ = some (.string sc)) (stE5 w5 E (.string ek) (.string ed) (.bool ef) (.int .i64 es) (.int .i64 ep)) := ⟨Q1.out.below B6 Q1.out.lt, cell_below (w := wr) hS0.2 B6⟩
          unfold stE5 at E6 B6 hS6
          refine hK5.out _ _ hS6 (fun _ => ?_)
          clear hK5 K5
          refine wpAnyH_ready (rs := [12]) (by kernel_rfl) (by simp) ?_
          refine AllReadyH.cons rfl (fun K5 hK5 => ?_) AllReadyH.nil
          go_simp
          refine hK5.out _ _ hS6 (fun _ => ?_)
          clear hK5 K5
          refine wpAnyH_done (by kernel_rfl) ?_ _
          refine hK _ _ ?_
          clear e0 e1 e2 e3 e4 f0 f1 f2 f3 f4
          generalize ((((w5.setCell ⟨E, 0, none⟩ (.string ek)).setCell ⟨E, 1, none⟩ (.string ed)).setCell ⟨E, 2, none⟩ (.bool ef)).setCell ⟨E, 3, none⟩ (.int .i64 es)).setCell ⟨E, 4, none⟩ (.int .i64 ep) = w6 at *
          have n0 := hS6.1.cell 1
          have n1 := hS6.1.free 1
          have m0 := E6.cell 0
          have m1 := E6.cell 1
          have m2 := E6.cell 2
          have m3 := E6.cell 3
          have m4 := E6.cell 4
          have OW := ceOwnBelow Q3.out B6
          have BT := below_step Q4.out B6
          have NB := hS6.1
          have w1lt : w1.heap.size < w6.heap.size := NB.lt
          have HNB := Lib.hid NB
          have HOW := Lib.hid OW
          have HBT := Lib.hid BT
          clear E6 B6 hS6 OW BT NB B5 E5 hS4
          go_wp2_with (at_builtin; refine wpList_append_own _ rfl _ _ 27 rfl w1.heap.size 58 j0 (.agg #[.string ⟨#[]⟩, .string ⟨#[]⟩, .bool false, .int .i64 0, .int .i64 0]) 5 56 Tryd.underlying27 hj jz0 jz1 jz2 rfl (by decide) _ k _ rfl (ceOwnBelow HOW.out ((Below.refl _ w6).alloc (Nat.le_refl _) (.cells #[.string ek, .string ed, .bool ef, .int .i64 es, .int .i64 ep] 58))) ⟨w6.heap.size, 0, none⟩ 1 1 [.string ek, .string ed, .bool ef, .int .i64 es, .int .i64 ep] rfl rfl (lies_all w6 _ _) (by intro u hu; simp at hu; rcases hu with rfl | rfl | rfl | rfl | rfl <;> rfl) (by unfold maxLen; omega) (by omega) (by simp; omega) ?_; intro v7 w7 h7 h8 h9; obtain ⟨vA, vc, rfl, _, _⟩ := own_by h7; have YN := (HNB.out.alloc (.cells #[.string ek, .string ed, .bool ef, .int .i64 es, .int .i64 ep] 58)).kept_own (ceOwnBelow HOW.out ((Below.refl _ w6).alloc (Nat.le_refl _) (.cells #[.string ek, .string ed, .bool ef, .int .i64 es, .int .i64 ep] 58))) (by decide) h8; have cn := YN.cell 1; have fn := YN.free 1; have YN := Lib.hid YN; have O7 := Lib.hid h7; have B7 := Lib.hid (below_own8 (HBT.out.alloc HBT.out.size (.cells #[.string ek, .string ed, .bool ef, .int .i64 es, .int .i64 ep] 58)) h8 (ceOwnBelow HOW.out ((Below.refl _ w6).alloc (Nat.le_refl _) (.cells #[.string ek, .string ed, .bool ef, .int .i64 es, .int .i64 ep] 58))) (by simp; omega)); clear h7 h8 h9)
          go_roundw
          case rel =>
            refine ⟨k + 1, by omega, by go_num, HOK2.out, _, YN.out.store 1 _, ?_, B7.out.setCell (p := ⟨w1.heap.size, 1, none⟩) (by show w1.heap.size ≤ w1.heap.size; omega) _⟩
            rw [NX.out]
            exact own_cell O7.out YN.out (by decide) 1 _
          case measure => simp [intOf]; omega
        · go_simp
          obtain ⟨w4, hw4⟩ : ∃ w4, (wr.alloc (.cells #[.string ⟨#[]⟩, .string ⟨#[]⟩, .bool false, .int .i64 0, .int .i64 0] 58)).drew = w4 := ⟨_, rfl⟩
          try rw [hw4]
          have B3 : Below wr.heap.size wr w4 := hw4 ▸ ((Below.refl _ wr).alloc (Nat.le_refl _) _).drew
          have E4 : Has w4 wr.heap.size 58 #[.string ⟨#[]⟩, .string ⟨#[]⟩, .bool false, .int .i64 0, .int .i64 0] := hw4 ▸ (Has.made wr _ _).drew
          have hS3 : (fun w' : World => Has w' w1.heap.size 29 #[.bool leaf, .slice Av k cv] ∧ w'.cell? ⟨g, off + k, none⟩ = some (.string sc)) w4 := ⟨Q1.out.below B3 Q1.out.lt, cell_below (w := wr) hS0.2 B3⟩
          refine hK5.out _ _ hS3 (fun _ => ?_)
          clear hK5 K5
          refine wpAnyH_ready (rs := [6]) (by kernel_rfl) (by simp) ?_
          refine AllReadyH.cons rfl (fun K5 hK5 => ?_) AllReadyH.nil
          go_simp
          go_at_call 38
          (try rw [hw4])
          (with_reducible refine (HON.out _).mono ?_)
          rintro r5 w5 ⟨rfl, b5⟩
          have B5 : Below wr.heap.size wr w5 := below_step B3 b5
          have hS4 : (fun w' : World => Has w' w1.heap.size 29 #[.bool leaf, .slice Av k cv] ∧ w'.cell? ⟨g, off + k, none⟩ = some (.string sc)) w5 := ⟨Q1.out.below B5 Q1.out.lt, cell_below (w := wr) hS0.2 B5⟩
          have E5 := E4.below b5 E4.lt
          obtain ⟨E, hE⟩ : ∃ E, wr.heap.size = E := ⟨_, rfl⟩
          have hEr : wr.heap.size ≤ E := by omega
          rw [hE] at E5 ⊢
          refine hK5.out _ _ hS4 (fun _ => ?_)
          clear hK5 K5
          refine wpAnyH_take (i := 7) (v := .tuple #[.agg #[.string ek, .string ed, .bool ef, .int .i64 es, .int .i64 ep], .bool true]) rfl (by kernel_rfl) (by kernel_rfl) (by kernel_rfl) (fun _ _ _ h => h) (Or.inl ⟨by rfl, ?_⟩) hS4 ?_
          · rintro w6 ⟨s1, s2⟩
            go_simp
          simp only [Act.put, List.setIfInBounds_toArray, List.set_cons_zero, List.set_cons_succ, List.getElem_toArray, List.getElem_cons_zero, List.getElem_cons_succ]
          refine wpAnyH_take (i := 8) (v := .agg #[.string ek, .string ed, .bool ef, .int .i64 es, .int .i64 ep]) rfl (by kernel_rfl) (by kernel_rfl) (by kernel_rfl) (fun _ _ _ h => h) (Or.inl ⟨by rfl, ?_⟩) hS4 ?_
          · rintro w6 ⟨s1, s2⟩
            go_simp
          simp only [Act.put, List.setIfInBounds_toArray, List.set_cons_zero, List.set_cons_succ, List.getElem_toArray, List.getElem_cons_zero, List.getElem_cons_succ]
          refine wpAnyH_take (i := 9) (v := .bool true) rfl (by kernel_rfl) (by kernel_rfl) (by kernel_rfl) (fun _ _ _ h => h) (Or.inl ⟨by rfl, ?_⟩) hS4 ?_
          · rintro w6 ⟨s1, s2⟩
            go_simp
          simp only [Act.put, List.setIfInBounds_toArray, List.set_cons_zero, List.set_cons_succ, List.getElem_toArray, List.getElem_cons_zero, List.getElem_cons_succ]
          refine wpAnyH_ready (rs := [11]) (by kernel_rfl) (by simp) ?_
          refine AllReadyH.cons rfl (fun K5 hK5 => ?_) AllReadyH.nil
          go_simp
          have e0 := E5.cell 0
          have e1 := E5.cell 1
          have e2 := E5.cell 2
          have e3 := E5.cell 3
          have e4 := E5.cell 4
          have f0 := E5.free 0
          have f1 := E5.free 1
          have f2 := E5.free 2
          have f3 := E5.free 3
          have f4 := E5.free 4
          go_simp
          have E6 := E5.setE (.string ek) (.string ed) (.bool ef) (.int .i64 es) (.int .i64 ep)
          have B6 := below_setE B5 hEr (.string ek) (.string ed) (.bool ef) (.int .i64 es) (.int .i64 ep)
          have hS6 : (fun w' : World => Has w' w1.heap.size 29 #[.bool leaf, .slice Av k cv] ∧ w'.cell? ⟨g, off + k, none⟩ = some (.string sc)) (stE5 w5 E (.string ek) (.string ed) (.bool ef) (.int .i64 es) (.int .i64 ep)) := ⟨Q1.out.below B6 Q1.out.lt, cell_below (w := wr) hS0.2 B6⟩
          unfold stE5 at E6 B6 hS6
          refine hK5.out _ _ hS6 (fun _ => ?_)
          clear hK5 K5
          refine wpAnyH_ready (rs := [12]) (by kernel_rfl) (by simp) ?_
          refine AllReadyH.cons rfl (fun K5 hK5 => ?_) AllReadyH.nil
          go_simp
          refine hK5.out _ _ hS6 (fun _ => ?_)
          clear hK5 K5
          refine wpAnyH_done (by kernel_rfl) ?_ _
          refine hK _ _ ?_
          clear e0 e1 e2 e3 e4 f0 f1 f2 f3 f4
          generalize ((((w5.setCell ⟨E, 0, none⟩ (.string ek)).setCell ⟨E, 1, none⟩ (.string ed)).setCell ⟨E, 2, none⟩ (.bool ef)).setCell ⟨E, 3, none⟩ (.int .i64 es)).setCell ⟨E, 4, none⟩ (.int .i64 ep) = w6 at *
          have n0 := hS6.1.cell 1
          have n1 := hS6.1.free 1
          have m0 := E6.cell 0
          have m1 := E6.cell 1
          have m2 := E6.cell 2
          have m3 := E6.cell 3
          have m4 := E6.cell 4
          have OW := ceOwnBelow Q3.out B6
          have BT := below_step Q4.out B6
          have NB := hS6.1
          have w1lt : w1.heap.size < w6.heap.size := NB.lt
          have HNB := Lib.hid NB
          have HOW := Lib.hid OW
          have HBT := Lib.hid BT
          clear E6 B6 hS6 OW BT NB B5 E5 hS4
          go_wp2_with (at_builtin; refine wpList_append_own _ rfl _ _ 27 rfl w1.heap.size 58 j0 (.agg #[.string ⟨#[]⟩, .string ⟨#[]⟩, .bool false, .int .i64 0, .int .i64 0]) 5 56 Tryd.underlying27 hj jz0 jz1 jz2 rfl (by decide) _ k _ rfl (ceOwnBelow HOW.out ((Below.refl _ w6).alloc (Nat.le_refl _) (.cells #[.string ek, .string ed, .bool ef, .int .i64 es, .int .i64 ep] 58))) ⟨w6.heap.size, 0, none⟩ 1 1 [.string ek, .string ed, .bool ef, .int .i64 es, .int .i64 ep] rfl rfl (lies_all w6 _ _) (by intro u hu; simp at hu; rcases hu with rfl | rfl | rfl | rfl | rfl <;> rfl) (by unfold maxLen; omega) (by omega) (by simp; omega) ?_; intro v7 w7 h7 h8 h9; obtain ⟨vA, vc, rfl, _, _⟩ := own_by h7; have YN := (HNB.out.alloc (.cells #[.string ek, .string ed, .bool ef, .int .i64 es, .int .i64 ep] 58)).kept_own (ceOwnBelow HOW.out ((Below.refl _ w6).alloc (Nat.le_refl _) (.cells #[.string ek, .string ed, .bool ef, .int .i64 es, .int .i64 ep] 58))) (by decide) h8; have cn := YN.cell 1; have fn := YN.free 1; have YN := Lib.hid YN; have O7 := Lib.hid h7; have B7 := Lib.hid (below_own8 (HBT.out.alloc HBT.out.size (.cells #[.string ek, .string ed, .bool ef, .int .i64 es, .int .i64 ep] 58)) h8 (ceOwnBelow HOW.out ((Below.refl _ w6).alloc (Nat.le_refl _) (.cells #[.string ek, .string ed, .bool ef, .int .i64 es, .int .i64 ep] 58))) (by simp; omega)); clear h7 h8 h9)
          go_roundw
          case rel =>
            refine ⟨k + 1, by omega, by go_num, HOK2.out, _, YN.out.store 1 _, ?_, B7.out.setCell (p := ⟨w1.heap.size, 1, none⟩) (by show w1.heap.size ≤ w1.heap.size; omega) _⟩
            rw [NX.out]
            exact own_cell O7.out YN.out (by decide) 1 _
          case measure => simp [intOf]; omega
    · obtain rfl : k = n := by omega
      have hkl : k = ls.length := T1.out.len
      have e : (oneN leaf ls).take k = oneN leaf ls := List.take_of_length_le (by rw [oneN, List.length_map, ← hkl]; exact Nat.le_refl _)
      rw [e] at hq3
      have hok : ∀ c ∈ ls, (oneE leaf c).2 = true := fun c hc => by
        obtain ⟨i, hi, rfl⟩ := List.getElem_of_mem hc
        exact hq0 i hi (by rw [hkl]; exact hi)
      have hfew := oneN_few leaf HCN.out HCS.out hok
      obtain ⟨A3, c3, hv, hN, hlo⟩ := NodA.of_ownL hq3 (fun e he => by have := hfew.2 e he; unfold maxLen; omega)
      injection hv with e1 e2 e3
      subst e1 e3
      have HN := Lib.hid hN
      have HLO := Lib.hid hlo
      have hall := HALL.out hok
      obtain ⟨w3, hw3⟩ : ∃ w3 : World, w3 = wr := ⟨_, rfl⟩
      subst hw3
      have HCK := Lib.hid (r8Check_any leaf Av k cv (oneN leaf ls) w3 hN hfew)
      have b0 := hq1.cell 0
      have b1 := hq1.cell 1
      clear hq0 hq1 hq3 hq4 e hok hfew hN hlo hkl
      by_cases hc : checkN leaf (oneN leaf ls)
      · rw [decide_eq_true hc] at HCK
        by_cases h2 : 2 < kd.toNat
        · have HANS : Hid (ans = (false, [], 11)) := Lib.hid (by rw [hall, if_neg (fun hh => hh.2 h2)])
          have hk2 : decide ((2 : Int) < (kd.toNat : Int)) = true := by simp; omega
          clear hall hc h2
          go_wp2_with (go_at_call 18; (with_reducible refine HCK.out.mono ?_); rintro r5 w5 ⟨rfl, b5⟩; have X5 := Q1.out.below b5 Q1.out.lt; have n0 := X5.cell 0; have n1 := X5.cell 1; have XR := HR.out.below (below_step Q4.out b5) HR.out.lt; have x0 := XR.cell 0; have x1 := XR.cell 1; have y0 := XR.free 0; have y1 := XR.free 1; have XR := Lib.hid XR; have BR := Lib.hid (below_step B1.out (below_step Q4.out b5)); have D5 := Lib.hid (HN.out.below b5); clear b5 X5)
          have hE2 := rget_end (A := none) (n := 0) (c := 0) false BR.out XR.out
          have q0 := hE2.2.cell 0
          have q1 := hE2.2.cell 1
          refine ⟨rfl, .tuple #[.agg #[.bool false, .slice none 0 0], .int .i64 11], ?_, by have hh := HANS.out; subst hh; exact ⟨none, 0, 0, rfl, NodA.none_ _, hE2.1⟩⟩
          simp at q0 q1
          simp [results, Tryd.f21, go_sem, q0, q1]
        · have HANS : Hid (ans = (leaf, oneN leaf ls, 0)) := Lib.hid (by rw [hall, if_pos ⟨hc, h2⟩])
          have hk2 : decide ((2 : Int) < (kd.toNat : Int)) = false := by simp; omega
          clear hall hc h2
          go_wp2_with (go_at_call 18; (with_reducible refine HCK.out.mono ?_); rintro r5 w5 ⟨rfl, b5⟩; have X5 := Q1.out.below b5 Q1.out.lt; have n0 := X5.cell 0; have n1 := X5.cell 1; have XR := HR.out.below (below_step Q4.out b5) HR.out.lt; have x0 := XR.cell 0; have x1 := XR.cell 1; have y0 := XR.free 0; have y1 := XR.free 1; have XR := Lib.hid XR; have BR := Lib.hid (below_step B1.out (below_step Q4.out b5)); have D5 := Lib.hid (HN.out.below b5); clear b5 X5)
          have hE2 := rget_end (A := Av) (n := k) (c := cv) leaf BR.out XR.out
          have q0 := hE2.2.cell 0
          have q1 := hE2.2.cell 1
          refine ⟨rfl, .tuple #[.agg #[.bool leaf, .slice Av k cv], .int .i64 0], ?_, by have hh := HANS.out; subst hh; exact ⟨Av, k, cv, rfl, (D5.out.set (fun a ha => Nat.lt_of_lt_of_le HR.out.lt (HLO.out a ha)) 0 _).set (fun a ha => Nat.lt_of_lt_of_le HR.out.lt (HLO.out a ha)) 1 _, hE2.1⟩⟩
          simp at q0 q1
          simp [results, Tryd.f21, go_sem, q0, q1]
      · rw [decide_eq_false hc] at HCK
        have HANS : Hid (ans = (false, [], 11)) := Lib.hid (by rw [hall, if_neg (fun hh => hc hh.1)])
        clear hall hc
        go_wp2_with (go_at_call 18; (with_reducible refine HCK.out.mono ?_); rintro r5 w5 ⟨rfl, b5⟩; have X5 := Q1.out.below b5 Q1.out.lt; have n0 := X5.cell 0; have n1 := X5.cell 1; have XR := HR.out.below (below_step Q4.out b5) HR.out.lt; have x0 := XR.cell 0; have x1 := XR.cell 1; have y0 := XR.free 0; have y1 := XR.free 1; have XR := Lib.hid XR; have BR := Lib.hid (below_step B1.out (below_step Q4.out b5)); have D5 := Lib.hid (HN.out.below b5); clear b5 X5)
        have hE2 := rget_end (A := none) (n := 0) (c := 0) false BR.out XR.out
        have q0 := hE2.2.cell 0
        have q1 := hE2.2.cell 1
        refine ⟨rfl, .tuple #[.agg #[.bool false, .slice none 0 0], .int .i64 11], ?_, by have hh := HANS.out; subst hh; exact ⟨none, 0, 0, rfl, NodA.none_ _, hE2.1⟩⟩
        simp at q0 q1
        simp [results, Tryd.f21, go_sem, q0, q1]
theorem r8Get_any (s : ByteArray) (w : World) (hs : s.size ≤ 1000000) : Calls Tryd.prog 21 #[.string s] w (GetN (getN s.data.toList) w) := by
  by_cases he : (unpN s.data.toList).2.2 = 0
  · exact r8Get_ok s w hs he
  · rw [getN_er he]
    exact r8Get_er s w hs he

end Go.Proofs.YtnponjdnjkegmaaDoor
