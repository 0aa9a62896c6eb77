/- The document's regions of layer 6: kept, Sync: contracts, no statement. -/
import Derived.Test.YthbchloghbfnmaaDxf
namespace Go.Proofs.Ythbchloghbfnmaa
open Go.RowKit
set_option linter.unusedVariables false

theorem str_info : (Try.prog.info? 9).map (fun i => (i.zero, i.size, i.bytes)) = some (some (.string ⟨#[]⟩), 1, 16) := by kernel_rfl
theorem own_store {w : World} {b n cap g j : Nat} {t : TypeId} {xs : List Value} (u : Value) (h : w.ownsRow b t 1 (.slice (some ⟨g, 0, none⟩) n cap) n xs) (hj : j < n) :
    (w.setCell ⟨g, j, none⟩ u).ownsRow b t 1 (.slice (some ⟨g, 0, none⟩) n cap) n (xs.set j u) ∧ (∃ u0, w.cell? ⟨g, j, none⟩ = some u0) ∧ w.frozen? ⟨g, j, none⟩ = false ∧ Below b w (w.setCell ⟨g, j, none⟩ u) := by
  have hl := h.1
  rcases h.2 with ⟨hv, hn⟩ | ⟨g', cap', cur, hv, hb, hg, hnc, hcm, hcs, hcur⟩
  · cases hv
  · injection hv with hA _ hc
    injection hA with hA
    injection hA with hA
    subst hA hc
    have hH : Has w g t cur := hg
    have hjc : j < cur.size := by omega
    refine ⟨⟨by simpa using hl, .inr ⟨g, cap, _, rfl, hb, hH.store j u, hnc, hcm, by simpa using hcs, ?_⟩⟩, ⟨cur[j], by rw [hH.cell]; simp [hjc]⟩, hH.free j, (Below.refl b w).setCell (p := ⟨g, j, none⟩) hb u⟩
    rw [Array.toList_setIfInBounds, ← hcur, List.take_set]
theorem set_txt (ps : List (List UInt8)) (j : Nat) (b : List UInt8) : (ps.map txtV).set j (txtV b) = (ps.set j b).map txtV := by rw [List.map_set]
theorem keptL_take {ps : List (List UInt8)} {l : List Wr} {k : Nat} {x : Wr} (h : l[k]? = some x) : keptL ps (l.take (k + 1)) = (keptL ps (l.take k)).set x.1.toNat x.2 := by
  rw [List.take_add_one, h]
  exact keptL_snoc ps (l.take k) x
theorem own_some {w : World} {b s : Nat} {t : TypeId} {v : Value} {n : Nat} {xs : List Value} (h : w.ownsRow b t s v n xs) (hn : 0 < n) : ∃ g cap, v = .slice (some ⟨g, 0, none⟩) n cap := by
  rcases h.2 with ⟨rfl, h⟩ | ⟨g, cap, cur, rfl, _⟩
  · omega
  · exact ⟨g, cap, rfl⟩
section
variable {w : World} {T : Tg}
theorem SlT.wr {A : Option Addr} {n c : Nat} {l : List Wr} (h : SlT w T A n c (looseV l)) {q : Nat} {x : Wr} (hq : l[q]? = some x) : ∃ b off, A = some ⟨b, off, none⟩ ∧ w.cell? ⟨b, off + q * 2, none⟩ = some (.int .i64 x.1) ∧ w.cell? ⟨b, off + q * 2 + 1, none⟩ = some (txtV x.2) := by
  have hl := (List.getElem?_eq_some_iff.1 hq).1
  obtain ⟨b, off, hA, hc⟩ := h.reads (by rw [looseV_len]; omega)
  obtain ⟨h1, h2⟩ := looseV_at l q x hq
  exact ⟨b, off, hA, hc _ _ h1, hc _ _ h2⟩
set_option maxRecDepth 100000 in
set_option maxHeartbeats 4000000 in
theorem r6kept_any (A B : Option Addr) (n c ln lc : Nat) (ps : List (List UInt8)) (l : List Wr) (hp : SlT w T A n c (ps.map txtV)) (hl : SlT w T B ln lc (looseV l)) (hpn : n = ps.length) (hln : ln = l.length) (hn0 : 0 < n) (hn : n ≤ 1000) (hl0 : ln ≤ 1000)
    (hx : ∀ x ∈ l, 0 ≤ x.1 ∧ x.1 < (n : Int)) (hT : ∀ g, w.heap.size ≤ g → T g = none) :
    Calls Try.prog 40 #[.slice A n c, .slice B ln lc] w fun e w' => ∃ A' c', e = .returned (.slice A' n c') ∧ SlT w' T A' n c' ((keptL ps l).map txtV) ∧ (∀ a, A' = some a → w.heap.size ≤ a.block) ∧ Below w.heap.size w w' ∧ Row w' 9 w.heap.size A' ((keptL ps l).map txtV) := by
  obtain ⟨i0, hi, hz0, hz1, hz2⟩ := info_parts str_info
  have HP := Lib.hid hp
  have HL := Lib.hid hl
  have HPN := Lib.hid hpn
  have HLN := Lib.hid hln
  have HX := Lib.hid hx
  have HT := Lib.hid hT
  have hmx : Try.prog.follows .mixedOrders = true := by kernel_rfl
  have hone := Lib.hid (show ∀ u ∈ ps.map txtV, u.oneCell' = true from fun u hu => by obtain ⟨x, _, rfl⟩ := List.mem_map.1 hu; rfl)
  clear hp hl hpn hln hx hT
  go_enter Try.func40, Try.ntmps40
  go_wp2_with (at_builtin; refine wpList_append_src rfl _ _ 33 rfl w.heap.size 9 i0 _ 1 16 Try.underlying33 hi hz0 hz1 hz2 rfl (by decide) _ 0 [] rfl (World.ownsRow_nil _ _ _ _) A n c (ps.map txtV) rfl (by simp [HPN.out]) HP.out.nil HP.out.room HP.out.reads hone.out (by omega) (by unfold maxLen; omega) (Nat.le_refl _) ?_; intro v2 w2 h7 h8; simp only [Nat.zero_add, List.nil_append] at h7; obtain ⟨g, cap, rfl⟩ := own_some h7 hn0; have O2 := Lib.hid h7; have B2 : Hid (Below w.heap.size w w2) := Lib.hid ((Below.refl _ w).grown (show w.grownBy w2 none from h8) (Nat.le_refl _) (fun k hk => by cases hk)); clear h7 h8)
  go_loopw [6] (fun i wr => ∃ k : Nat, k ≤ ln ∧ i = .int .i64 (k : Int) ∧ wr.ownsRow w.heap.size 9 1 (.slice (some ⟨g, 0, none⟩) n cap) n ((keptL ps (l.take k)).map txtV) ∧ Below w.heap.size w wr) (fun i _ => ln - (intOf i).toNat)
  case atStart => exact ⟨0, Nat.zero_le _, rfl, by rw [List.take_zero]; exact O2.out, B2.out⟩
  case round =>
    obtain ⟨k, hk, rfl, ho, hb⟩ := hrel
    have HO := Lib.hid ho
    have HB := Lib.hid hb
    clear ho hb
    by_cases hlt : k < ln
    · have hkl : k < l.length := by rw [← HLN.out]; exact hlt
      obtain ⟨y, hy⟩ : ∃ y, l[k]? = some y := ⟨_, List.getElem?_eq_getElem hkl⟩
      obtain ⟨lb, lo, hB, d0, d1⟩ := (HL.out.below HB.out).wr hy
      subst hB
      obtain ⟨x0, x1⟩ := HX.out y (List.mem_of_getElem? hy)
      have HTK := Lib.hid (keptL_take (ps := ps) hy)
      obtain ⟨z, yb⟩ := y
      dsimp only at *
      obtain ⟨q, rfl⟩ : ∃ q : Nat, z = (q : Int) := ⟨z.toNat, by omega⟩
      obtain ⟨h1, ⟨u0, h2⟩, h3, h4⟩ := own_store (j := q) (txtV yb) HO.out (by omega)
      have NO : Hid ((wr.setCell ⟨g, q, none⟩ (txtV yb)).ownsRow w.heap.size 9 1 (.slice (some ⟨g, 0, none⟩) n cap) n ((keptL ps (l.take (k + 1))).map txtV)) := Lib.hid (by rw [HTK.out, ← set_txt]; exact h1)
      have NB : Hid (Below w.heap.size w (wr.setCell ⟨g, q, none⟩ (txtV yb))) := Lib.hid (HB.out.trans h4)
      have hlb : (wr.setCell ⟨g, q, none⟩ (txtV yb)).cell? ⟨lb, lo + k * 2, none⟩ = some (.int .i64 (q : Int)) ∧ (wr.setCell ⟨g, q, none⟩ (txtV yb)).cell? ⟨lb, lo + k * 2 + 1, none⟩ = some (txtV yb) := by
        obtain ⟨lb', lo', hB', d0', d1'⟩ := (HL.out.below NB.out).wr hy
        injection hB' with hB'
        injection hB' with hb1 hb2
        subst hb1 hb2
        exact ⟨d0', d1'⟩
      clear h1 h4 hkl hy
      unfold txtV at d1 NO NB hlb
      generalize (⟨yb.toArray⟩ : ByteArray) = yb2 at d1 NO NB hlb
      have i0' : (0 : Int) ≤ (k : Int) := by omega
      have i1 : (k : Int) < (ln : Int) := by omega
      have hS : (fun w' : World => w'.cell? ⟨lb, lo + k * 2, none⟩ = some (.int .i64 (q : Int)) ∧ w'.cell? ⟨lb, lo + k * 2 + 1, none⟩ = some (.string yb2)) wr.drew := ⟨d0, d1⟩
      have hS2 : (fun w' : World => w'.cell? ⟨lb, lo + k * 2, none⟩ = some (.int .i64 (q : Int)) ∧ w'.cell? ⟨lb, lo + k * 2 + 1, none⟩ = some (.string yb2)) (wr.drew.setCell ⟨g, q, none⟩ (.string yb2)) := hlb
      go_wp2
      rename_i K hK
      refine wp_heldHQ (fun w' : World => w'.cell? ⟨lb, lo + k * 2, none⟩ = some (.int .i64 (q : Int)) ∧ w'.cell? ⟨lb, lo + k * 2 + 1, none⟩ = some (.string yb2)) hmx ?_
      refine wpAnyH_take (i := 0) (v := .slice (some ⟨g, 0, none⟩) n cap) rfl (by kernel_rfl) (by kernel_rfl) (by kernel_rfl) (fun _ _ _ h => h) (Or.inl ⟨by rfl, ?_⟩) hS ?_
      · rintro w6 ⟨d0, d1⟩
        go_simp
      simp only [Act.put, List.setIfInBounds_toArray, List.set_cons_zero, List.set_cons_succ, List.getElem_toArray, List.getElem_cons_zero]
      refine wpAnyH_take (i := 1) (v := .slice (some ⟨lb, lo, none⟩) ln lc) rfl (by kernel_rfl) (by kernel_rfl) (by kernel_rfl) (fun _ _ _ h => h) (Or.inl ⟨by rfl, ?_⟩) hS ?_
      · rintro w6 ⟨d0, d1⟩
        go_simp
      simp only [Act.put, List.setIfInBounds_toArray, List.set_cons_zero, List.set_cons_succ, List.getElem_toArray, List.getElem_cons_zero, List.getElem_cons_succ]
      refine wpAnyH_take (i := 2) (v := .int .i64 (k : Int)) rfl (by kernel_rfl) (by kernel_rfl) (by kernel_rfl) (fun _ _ _ h => h) (Or.inl ⟨by rfl, ?_⟩) hS ?_
      · rintro w6 ⟨d0, d1⟩
        go_simp
      simp only [Act.put, List.setIfInBounds_toArray, List.set_cons_zero, List.set_cons_succ, List.getElem_toArray, List.getElem_cons_zero, List.getElem_cons_succ]
      refine wpAnyH_take (i := 3) (v := .pointer (some ⟨lb, lo + k * 2, none⟩)) rfl (by kernel_rfl) (by kernel_rfl) (by kernel_rfl) (fun _ _ _ h => h) (Or.inl ⟨by rfl, ?_⟩) hS ?_
      · rintro w6 ⟨d0, d1⟩
        go_simp
      simp only [Act.put, List.setIfInBounds_toArray, List.set_cons_zero, List.set_cons_succ, List.getElem_toArray, List.getElem_cons_zero, List.getElem_cons_succ]
      refine wpAnyH_take (i := 4) (v := .pointer (some ⟨lb, lo + k * 2, none⟩)) rfl (by kernel_rfl) (by kernel_rfl) (by kernel_rfl) (fun _ _ _ h => h) (Or.inl ⟨by rfl, ?_⟩) hS ?_
      · rintro w6 ⟨d0, d1⟩
        go_simp
      simp only [Act.put, List.setIfInBounds_toArray, List.set_cons_zero, List.set_cons_succ, List.getElem_toArray, List.getElem_cons_zero, List.getElem_cons_succ]
      refine wpAnyH_take (i := 5) (v := .int .i64 (q : Int)) rfl (by kernel_rfl) (by kernel_rfl) (by kernel_rfl) (fun _ _ _ h => h) (Or.inl ⟨by rfl, ?_⟩) hS ?_
      · rintro w6 ⟨d0, d1⟩
        go_simp
      simp only [Act.put, List.setIfInBounds_toArray, List.set_cons_zero, List.set_cons_succ, List.getElem_toArray, List.getElem_cons_zero, List.getElem_cons_succ]
      refine wpAnyH_take (i := 6) (v := .slice (some ⟨lb, lo, none⟩) ln lc) rfl (by kernel_rfl) (by kernel_rfl) (by kernel_rfl) (fun _ _ _ h => h) (Or.inl ⟨by rfl, ?_⟩) hS ?_
      · rintro w6 ⟨d0, d1⟩
        go_simp
      simp only [Act.put, List.setIfInBounds_toArray, List.set_cons_zero, List.set_cons_succ, List.getElem_toArray, List.getElem_cons_zero, List.getElem_cons_succ]
      refine wpAnyH_take (i := 7) (v := .int .i64 (k : Int)) rfl (by kernel_rfl) (by kernel_rfl) (by kernel_rfl) (fun _ _ _ h => h) (Or.inl ⟨by rfl, ?_⟩) hS ?_
      · rintro w6 ⟨d0, d1⟩
        go_simp
      simp only [Act.put, List.setIfInBounds_toArray, List.set_cons_zero, List.set_cons_succ, List.getElem_toArray, List.getElem_cons_zero, List.getElem_cons_succ]
      refine wpAnyH_take (i := 8) (v := .pointer (some ⟨lb, lo + k * 2, none⟩)) rfl (by kernel_rfl) (by kernel_rfl) (by kernel_rfl) (fun _ _ _ h => h) (Or.inl ⟨by rfl, ?_⟩) hS ?_
      · rintro w6 ⟨d0, d1⟩
        go_simp
      simp only [Act.put, List.setIfInBounds_toArray, List.set_cons_zero, List.set_cons_succ, List.getElem_toArray, List.getElem_cons_zero, List.getElem_cons_succ]
      refine wpAnyH_take (i := 9) (v := .pointer (some ⟨lb, lo + k * 2 + 1, none⟩)) rfl (by kernel_rfl) (by kernel_rfl) (by kernel_rfl) (fun _ _ _ h => h) (Or.inl ⟨by rfl, ?_⟩) hS ?_
      · rintro w6 ⟨d0, d1⟩
        go_simp
      simp only [Act.put, List.setIfInBounds_toArray, List.set_cons_zero, List.set_cons_succ, List.getElem_toArray, List.getElem_cons_zero, List.getElem_cons_succ]
      refine wpAnyH_take (i := 10) (v := .string yb2) rfl (by kernel_rfl) (by kernel_rfl) (by kernel_rfl) (fun _ _ _ h => h) (Or.inl ⟨by rfl, ?_⟩) hS ?_
      · rintro w6 ⟨d0, d1⟩
        go_simp
      simp only [Act.put, List.setIfInBounds_toArray, List.set_cons_zero, List.set_cons_succ, List.getElem_toArray, List.getElem_cons_zero, List.getElem_cons_succ]
      refine wpAnyH_take (i := 11) (v := .pointer (some ⟨g, q, none⟩)) rfl (by kernel_rfl) (by kernel_rfl) (by kernel_rfl) (fun _ _ _ h => h) (Or.inl ⟨by rfl, ?_⟩) hS ?_
      · rintro w6 ⟨d0, d1⟩
        go_simp
      simp only [Act.put, List.setIfInBounds_toArray, List.set_cons_zero, List.set_cons_succ, List.getElem_toArray, List.getElem_cons_zero, List.getElem_cons_succ]
      refine wpAnyH_ready (rs := [12]) (by kernel_rfl) (by simp) ?_
      refine AllReadyH.cons rfl (fun K5 hK5 => ?_) AllReadyH.nil
      go_simp
      refine hK5.out _ _ hS2 (fun _ => ?_)
      clear hK5 K5
      refine wpAnyH_done (by kernel_rfl) ?_ _
      refine hK _ _ ?_
      go_wp2
      go_roundw
      case rel => exact ⟨k + 1, by omega, by go_num, NO.out, NB.out.drew⟩
      case measure => simp [intOf]; omega
    · obtain rfl : k = ln := by omega
      obtain ⟨w3, hw3⟩ : ∃ w3 : World, w3 = wr := ⟨_, rfl⟩
      subst hw3
      go_wp2
      go_ret
      have h := HO.out
      rw [List.take_of_length_le (Nat.le_of_eq HLN.out.symm)] at h
      obtain ⟨A', c', hv, hs⟩ := SlT.of_own (T := T) h (fun g hg => HT.out g hg)
      injection hv with h1 _ h2
      subst h1 h2
      exact ⟨_, _, rfl, hs, fun a ha => by injection ha with ha; subst ha; exact own_min h _ rfl, HB.out, Row.of_own h⟩
theorem SlT.away {A : Option Addr} {n c : Nat} {xs : List Value} (h : SlT w T A n c xs) {p : Addr} (hp : ∀ a, A = some a → a.block ≠ p.block) (u : Value) : SlT (w.setCell p u) T A n c xs :=
  ⟨fun hx => by
    obtain ⟨g, off, hA, hc⟩ := h.reads hx
    exact ⟨g, off, hA, fun j v hj => (cell_heap (p := ⟨g, off + j, none⟩) (setCell_heap_other w p u g (hp _ hA))).trans (hc j v hj)⟩, h.un, h.room, h.most, h.nil⟩
theorem setK_all (l : List Wr) (f : Int → Option (List UInt8)) : l.foldl putS f = setK allK 0 l f := by
  rw [← keepF_set, keepF_all]
theorem syA_not {rs : List Rg} {x : Int} (h : upE rs x ≠ 0) : syA rs x = (rs, upE rs x) := by
  unfold upE at h ⊢
  unfold syA
  cases hr : regN rs x with
  | none => rfl
  | some r =>
    simp only [hr] at h ⊢
    split
    · rfl
    · simp_all
theorem upE_yes {rs : List Rg} {x : Int} (h : upE rs x = 0) : ∃ r, regN rs x = some r ∧ r.down = false := by
  unfold upE at h
  cases hr : regN rs x with
  | none => simp [hr] at h
  | some r =>
    simp only [hr] at h
    cases hd : r.down
    · exact ⟨r, rfl, hd⟩
    · simp [hd] at h
theorem syA_yes {rs : List Rg} {x : Int} {r : Rg} (hr : regN rs x = some r) (hd : r.down = false) : syA rs x = if r.left = 0 then (rs.set x.toNat (cntR r), 3) else (rs.set x.toNat (setR allK (cntR r)), 0) := by
  unfold syA
  have := (cntR_parts r hd).2.1
  simp [hr, hd, this]
theorem sy_next {w1 W w2 : World} {pA lA A3 : Option Addr} {pn pc ln lc c3 : Nat} {m : Int} {xs : List Value} (hB : Below w.heap.size w W) (hx : Has W w1.heap.size 53 #[.slice pA pn pc, .slice lA ln lc, .int .i64 m, .bool false]) (h1 : w.heap.size ≤ w1.heap.size)
    (h5 : SlT w2 T A3 pn c3 xs) (h6 : ∀ a, A3 = some a → W.heap.size ≤ a.block) (h7 : Below W.heap.size W w2) :
    w2.cell? ⟨w1.heap.size, 0, none⟩ = some (.slice pA pn pc) ∧ w2.cell? ⟨w1.heap.size, 1, none⟩ = some (.slice lA ln lc) ∧ w2.cell? ⟨w1.heap.size, 2, none⟩ = some (.int .i64 m) ∧ w2.cell? ⟨w1.heap.size, 3, none⟩ = some (.bool false) ∧ w2.frozen? ⟨w1.heap.size, 0, none⟩ = false ∧ w2.frozen? ⟨w1.heap.size, 1, none⟩ = false ∧
      SlT ((w2.setCell ⟨w1.heap.size, 0, none⟩ (.slice A3 pn c3)).setCell ⟨w1.heap.size, 1, none⟩ (.slice none 0 0)) T A3 pn c3 xs ∧ Below w.heap.size w ((w2.setCell ⟨w1.heap.size, 0, none⟩ (.slice A3 pn c3)).setCell ⟨w1.heap.size, 1, none⟩ (.slice none 0 0)) := by
  have h2 := hx.below h7 hx.lt
  have hlt := hx.lt
  refine ⟨h2.cell 0, h2.cell 1, h2.cell 2, h2.cell 3, h2.free 0, h2.free 1, ?_, ?_⟩
  · exact (h5.away (p := ⟨w1.heap.size, 0, none⟩) (fun a ha => by have := h6 a ha; show a.block ≠ w1.heap.size; omega) _).away (p := ⟨w1.heap.size, 1, none⟩) (fun a ha => by have := h6 a ha; show a.block ≠ w1.heap.size; omega) _
  · exact ((below_step hB h7).setCell (p := ⟨w1.heap.size, 0, none⟩) h1 _).setCell (p := ⟨w1.heap.size, 1, none⟩) h1 _
variable {A : Option Addr} {n c : Nat} {gs : List Gx}
set_option maxRecDepth 100000 in
set_option maxHeartbeats 4000000 in
theorem r6Sync_any (x : Int) (h : GA w T A n c gs) (hn : gs.length ≤ 1000) (hm : ∀ r ∈ rgs gs, r.loose.length ≤ 1000) (hT : ∀ g, w.heap.size ≤ g → T g = none) :
    Calls Try.prog 16 #[.slice A n c, .int .i64 x] w (GeEnd T (syA (rgs gs) x).1 (syA (rgs gs) x).2 n w) := by
  have hup := r6up_any x 0 false h
  rw [upI_sy] at hup
  have HH := Lib.hid h
  have HUP := Lib.hid hup
  by_cases he : upE (rgs gs) x = 0
  · rw [he] at HUP
    obtain ⟨r, hr, hd⟩ := upE_yes he
    rw [syA_yes hr hd]
    obtain ⟨k, g, rfl, hg, rfl, hk⟩ := regN_gs hr
    have hlm := hm g.r (List.mem_map.2 ⟨g, List.mem_of_getElem? hg, rfl⟩)
    have hgo := h.reg hg
    have hlen := h.len
    obtain ⟨b, off, rfl, c0, c1, c2, c3⟩ := h.at_ hg
    obtain ⟨r, pA, pc, lA, lc⟩ := g
    dsimp only at *
    rw [hd] at c3
    have hcr := cntR_at r hd
    have hok := hgo.ok
    have hlo := hgo.lo
    dsimp only at hok hlo
    obtain ⟨m, hmm⟩ : ∃ m, r.left = m := ⟨_, rfl⟩
    obtain ⟨ln, hln⟩ : ∃ ln, r.loose.length = ln := ⟨_, rfl⟩
    have hcnt := r6counts_any pA lA r.size pc ln lc m
    rw [hmm] at c2 hcr
    rw [hln] at c1 hlm
    have i2 : (0 : Int) ≤ (k : Int) := by omega
    have i3 : (k : Int) < (n : Int) := by omega
    have HC := Lib.hid (fun w1 => hcnt w1 (hmm ▸ hok.left0) (hmm ▸ hok.left1))
    have HN := Lib.hid hn
    have HK := Lib.hid hk
    have HT := Lib.hid hT
    have HG := Lib.hid hgo
    have HCR := Lib.hid hcr
    have HLN := Lib.hid hln
    have HM := Lib.hid hmm
    clear hcnt h hup he hm hr hd hg hk hgo hn hT hlen hcr hok hlo hmm hln
    by_cases h0 : m = 0
    · subst h0
      have HC0 : Hid (∀ w1, Calls Try.prog 36 #[.agg #[.slice pA r.size pc, .slice lA ln lc, .int .i64 0, .bool false]] w1 fun e w' => e = .returned (.tuple #[.agg #[.slice pA r.size pc, .slice lA ln lc, .int .i64 0, .bool true], .int .i64 3]) ∧ Below w1.heap.size w1 w') := Lib.hid (fun w1 => HC.out w1)
      have hnew : ∀ w' : World, Below w.heap.size w w' → Gok w' T ⟨cntR r, pA, pc, lA, lc⟩ := fun w' hb => ⟨by have := HG.out.pg.below hb; rw [HCR.out]; exact this, by have := HG.out.lo.below hb; rw [HCR.out]; exact this, cntR_ok HG.out.ok⟩
      have hset : rgs (gs.set k ⟨cntR r, pA, pc, lA, lc⟩) = (rgs gs).set (k : Int).toNat (cntR r) := rgs_set _ _ _
      rw [if_pos HM.out, ← hset]
      have HWI : Hid (∀ w1, Below w.heap.size w w1 → Calls Try.prog 37 #[.slice (some ⟨b, off, none⟩) n c, .int .i64 (k : Int), .agg #[.slice pA r.size pc, .slice lA ln lc, .int .i64 0, .bool true]] w1 (GaEnd T n (gs.set k ⟨cntR r, pA, pc, lA, lc⟩) w1)) := Lib.hid (fun w1 hb => by
        have := r6with_any k ⟨cntR r, pA, pc, lA, lc⟩ (HH.out.below hb) (hnew w1 hb) HK.out HN.out (fun g hg => HT.out g (Nat.le_trans hb.size hg))
        rw [HCR.out] at this ⊢
        dsimp only at this
        rw [HLN.out] at this
        exact this)
      clear HC hnew hset
      go_enter Try.func16, Try.ntmps16
      go_wp2_with (first
        | (go_at_call 35; (with_reducible refine HUP.out.mono ?_); rintro e w2 ⟨rfl, rfl⟩)
        | (go_at_call 36; (with_reducible refine (HC0.out _).mono ?_); rintro e w1 ⟨rfl, h1⟩; have B1 := Lib.hid h1; have HB : Hid (Below w.heap.size w (w1.alloc (.cells #[.slice pA r.size pc, .slice lA ln lc, .int .i64 0, .bool true] 53))) := Lib.hid (h1.alloc h1.size _); clear h1)
        | (go_at_call 37; (with_reducible refine (HWI.out _ HB.out).mono ?_); rintro e w5 ⟨A5, c5, rfl, h5, h6⟩; have Z5 := Lib.hid h5; have B5 := Lib.hid (below_step HB.out h6); clear h5 h6))
      go_ret2
      exact ⟨A5, c5, _, rfl, Z5.out, rfl, B5.out⟩
    · obtain ⟨mm, hmm⟩ : ∃ mm, cntL m = mm := ⟨_, rfl⟩
      have HC1 : Hid (∀ w1, Calls Try.prog 36 #[.agg #[.slice pA r.size pc, .slice lA ln lc, .int .i64 m, .bool false]] w1 fun e w' => e = .returned (.tuple #[.agg #[.slice pA r.size pc, .slice lA ln lc, .int .i64 mm, .bool false], .int .i64 0]) ∧ Below w1.heap.size w1 w') := Lib.hid (fun w1 => by
        have := HC.out w1
        rw [hmm, show decide (m = 0) = false by simpa using h0, show cntE m = 0 by simp [cntE, h0]] at this
        exact this)
      have hcr2 : cntR r = { r with left := mm, down := false } := by rw [HCR.out, hmm]; simp [h0]
      have hset : ∀ A3 c3, rgs (gs.set k ⟨setR allK (cntR r), A3, c3, none, 0⟩) = (rgs gs).set (k : Int).toNat (setR allK (cntR r)) := fun _ _ => rgs_set _ _ _
      rw [if_neg (by rw [HM.out]; exact h0)]
      have HSET := Lib.hid hset
      have HWI : Hid (∀ w1 A3 c3, Below w.heap.size w w1 → SlT w1 T A3 r.size c3 ((keptL (pagesL r.syn r.size) r.loose).map txtV) → Calls Try.prog 37 #[.slice (some ⟨b, off, none⟩) n c, .int .i64 (k : Int), .agg #[.slice A3 r.size c3, .slice none 0 0, .int .i64 mm, .bool false]] w1 (GaEnd T n (gs.set k ⟨setR allK (cntR r), A3, c3, none, 0⟩) w1)) := Lib.hid (fun w1 A3 c3 hb hs => by
        have hgk : Gok w1 T ⟨setR allK (cntR r), A3, c3, none, 0⟩ := by
          refine ⟨?_, SlT.none_ _ _, setR_ok (cntR_ok HG.out.ok)⟩
          rw [keptL_pages _ _ _ (fun x hx => (HG.out.ok.loose x hx).1), setK_all] at hs
          rw [hcr2]
          exact hs
        have := r6with_any k ⟨setR allK (cntR r), A3, c3, none, 0⟩ (HH.out.below hb) hgk HK.out HN.out (fun g hg => HT.out g (Nat.le_trans hb.size hg))
        rw [hcr2] at this ⊢
        exact this)
      have HKP : Hid (∀ w1, Below w.heap.size w w1 → Calls Try.prog 40 #[.slice pA r.size pc, .slice lA ln lc] w1 fun e w' => ∃ A' c', e = .returned (.slice A' r.size c') ∧ SlT w' T A' r.size c' ((keptL (pagesL r.syn r.size) r.loose).map txtV) ∧ (∀ a, A' = some a → w1.heap.size ≤ a.block) ∧ Below w1.heap.size w1 w' ∧ Row w' 9 w1.heap.size A' ((keptL (pagesL r.syn r.size) r.loose).map txtV)) := Lib.hid (fun w1 hb => by
        have hgb := HG.out.below hb
        have hlo := hgb.lo
        dsimp only at hlo
        rw [HLN.out] at hlo
        exact r6kept_any pA lA r.size pc ln lc (pagesL r.syn r.size) r.loose hgb.pg hlo (pagesL_len _ _).symm HLN.out.symm (HG.out.ok.pos) HG.out.ok.most hlm (fun x hx => ⟨(HG.out.ok.loose x hx).1, (HG.out.ok.loose x hx).2.1⟩) (fun g hg => HT.out g (Nat.le_trans hb.size hg)))
      have e0 : (m == 0) = false := by simpa using h0
      clear HC hset hcr2 hmm h0
      go_enter Try.func16, Try.ntmps16
      go_wp2_with (first
        | (go_at_call 35; (with_reducible refine HUP.out.mono ?_); rintro e w2 ⟨rfl, rfl⟩)
        | (go_at_call 36; (with_reducible refine (HC1.out _).mono ?_); rintro e w1 ⟨rfl, h1⟩; have HB : Hid (Below w.heap.size w (w1.alloc (.cells #[.slice pA r.size pc, .slice lA ln lc, .int .i64 mm, .bool false] 53))) := Lib.hid (h1.alloc h1.size _); have BOX : Hid (Has (w1.alloc (.cells #[.slice pA r.size pc, .slice lA ln lc, .int .i64 mm, .bool false] 53)) w1.heap.size 53 #[.slice pA r.size pc, .slice lA ln lc, .int .i64 mm, .bool false]) := Lib.hid (Has.made w1 _ _); have S1 := Lib.hid h1.size; clear h1)
        | (go_at_call 40; (with_reducible refine (HKP.out _ HB.out).mono ?_); rintro e w2 ⟨A3, c3, rfl, h5, h6, h7, _⟩; obtain ⟨d0, d1, d2, d3, f0, f1, h8, h9⟩ := sy_next HB.out BOX.out S1.out h5 h6 h7; have S3 := Lib.hid h8; have B3 := Lib.hid h9; clear h5 h6 h7 h8 h9)
        | (go_at_call 37; (with_reducible refine (HWI.out _ _ _ B3.out S3.out).mono ?_); rintro e w5 ⟨A5, c5, rfl, h5, h6⟩; have Z5 := Lib.hid h5; have B5 := Lib.hid (below_step B3.out h6); clear h5 h6))
      go_ret2
      exact ⟨A5, c5, _, rfl, Z5.out, HSET.out _ _, B5.out⟩
  · rw [syA_not he]
    obtain ⟨er, her⟩ : ∃ er, upE (rgs gs) x = er := ⟨_, rfl⟩
    rw [her] at HUP he
    rw [her]
    have e1 : (er == 0) = false := by simpa using he
    clear hup h hm hT hn he her
    go_enter Try.func16, Try.ntmps16
    go_wp2_with (go_at_call 35; (with_reducible refine HUP.out.mono ?_); rintro e w2 ⟨rfl, rfl⟩)
    go_ret2
    exact ⟨A, c, gs, rfl, HH.out, rfl, Below.refl _ _⟩
end

end Go.Proofs.Ythbchloghbfnmaa
