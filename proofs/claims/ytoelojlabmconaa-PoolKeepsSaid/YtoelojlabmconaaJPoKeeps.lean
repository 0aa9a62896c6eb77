import Derived.Test.YtoelojlabmconaaJPot
import Derived.Deep.Cut
/- Of a claim's texts, joined: PoKeeps. No statement but in the last. -/
namespace Go.Proofs.Ytoelojlabmconaa
open Go.RowKit
set_option linter.unusedVariables false

set_option maxRecDepth 100000 in
set_option maxHeartbeats 8000000 in
theorem walkPoolKeeps (q : Nat) (A : Option Addr) (n c : Nat) (l : List (Int × Int × Nat)) (W : World) (h : StA13 W A n l) (hq : q < 256) (hnI : n ≤ 9223372036854775807) :
    Calls Try.prog 4 #[.int .u8 (q : Int), .slice A n c] W fun e W' => e = .returned (.bool true) ∧ Below W.heap.size W W' := by
  have hmx : Try.prog.follows .mixedOrders = true := by kernel_rfl
  have HAW := Lib.hid (awake13_any W)
  by_cases hn : 40 < n
  · have hnI' : (40 : Int) < (n : Int) := by omega
    clear h
    go_enter Try.func4, Try.ntmps4
    go_wp2_with (go_at_call 7; (with_reducible refine HAW.out.mono ?_); rintro e w1 ⟨rfl, b1⟩; have B1 := Lib.hid b1; clear b1)
    go_ret
    exact ⟨rfl, B1.out⟩
  · have hn20 : ¬ (40 : Int) < (n : Int) := by omega
    have HE0 : Hid (0 < n → ∃ b off, A = some ⟨b, off, none⟩ ∧ ∀ k x, l[k]? = some x → ∀ w5, Below W.heap.size W w5 → w5.cell? ⟨b, off + k * 3, none⟩ = some (.int .i64 x.1) ∧ w5.cell? ⟨b, off + k * 3 + 1, none⟩ = some (.int .i64 x.2.1) ∧ w5.cell? ⟨b, off + k * 3 + 2, none⟩ = some (.int .u64 (x.2.2 : Int))) := Lib.hid (fun h0 => by
      obtain ⟨b, off, e, hlt, hc⟩ := h.reads h0
      exact ⟨b, off, e, fun k x hx w5 b5 => ⟨(b5.cell (p := ⟨b, off + k * 3, none⟩) hlt).trans (hc k x hx).1, (b5.cell (p := ⟨b, off + k * 3 + 1, none⟩) hlt).trans (hc k x hx).2.1, (b5.cell (p := ⟨b, off + k * 3 + 2, none⟩) hlt).trans (hc k x hx).2.2⟩⟩)
    have HLN := Lib.hid h.len
    have HBG := Lib.hid h.big
    have HIT := Lib.hid h.int
    clear h
    obtain ⟨top, htop⟩ : ∃ top, q + 2 = top := ⟨_, rfl⟩
    have ht2 : 2 ≤ top := by omega
    have ht1 : top ≤ 1000 := by omega
    have hqt : (q : Int) + 2 = (top : Int) := by omega
    have hqw : IntKind.i64.wrap ((q : Int) + 2) = (top : Int) := by rw [IntKind.wrap_i64]; omega
    have q0 : (0 : Int) ≤ (q : Int) := by omega
    have q1 : (q : Int) ≤ 255 := by omega
    have hmk := fun w => make_bools13 w top (by omega)
    clear htop
    go_enter Try.func4, Try.ntmps4
    go_wp2_with (go_at_call 7; (with_reducible refine HAW.out.mono ?_); rintro e w1 ⟨rfl, b1⟩; have B1 := Lib.hid b1; clear b1)
    go_loopw [9, 10] (fun t i wr => ∃ (k tt : Nat) (hs : List Bool) (h : Int) (A1 : Option Addr) (n1 c1 : Nat) (B1 : Option Addr) (m1 d1 : Nat) (p : Pd), k ≤ n ∧ i = .int .i64 (k : Int) ∧ t = .int .u64 (tt : Int) ∧ tt ≤ k + 1 ∧ KpS W wr w1.heap.size (w1.heap.size + 1) hs h A1 n1 c1 B1 m1 d1 p ∧ KpP p top tt hs) (fun _ i _ => n - (intOf i).toNat)
    case atStart =>
      exact ⟨0, 1, List.replicate top false, 2, none, 0, 0, none, 0, 0, ⟨2, [], []⟩, Nat.zero_le _, rfl, rfl, by omega, KpS.start B1.out top, KpP.zero ht2⟩
    case round =>
      obtain ⟨k, tt, hs, h, A1, n1, c1, B1, m1, d1, p, hk, rfl, rfl, htt, hS, hkp⟩ := hrel
      have HS := Lib.hid hS
      have HKP := Lib.hid hkp
      clear hS hkp
      by_cases hlt : k < n
      · obtain ⟨b, off, rfl, hel⟩ := HE0.out (by omega)
        have hkl : k < l.length := by rw [← HLN.out]; exact hlt
        have hel := fun w5 b5 => hel k l[k] (List.getElem?_eq_getElem hkl) w5 b5
        have hv := HBG.out _ (List.getElem_mem hkl)
        have hN := HIT.out _ (List.getElem_mem hkl)
        obtain ⟨kd, N, v, hyx⟩ : ∃ kd N v, l[k] = (kd, N, v) := ⟨_, _, _, rfl⟩
        rw [hyx] at hel hv hN
        simp only at hel hv hN
        have HEL := Lib.hid hel
        obtain ⟨hc0, hc1, hc2⟩ := hel wr HS.out.bel
        clear hel
        have hkI : (k : Int) < (n : Int) := by omega
        have hk0 : (0 : Int) ≤ (k : Int) := by omega
        clear hyx hkl
        by_cases h0 : kd = 0
        · as_aux_lemma =>
          subst h0
          have HTF := Lib.hid (fun w5 (s : KpS W w5 w1.heap.size (w1.heap.size + 1) hs h A1 n1 c1 B1 m1 d1 p) => s.takeF HKP.out ht1 N hN)
          have htt2 : tt ≤ k + 2 := by omega
          obtain ⟨bb, hbb⟩ : ∃ x, decide (0 ≤ N ∧ N ≤ roomP p top) = x := ⟨_, rfl⟩
          rw [hbb] at HTF
          have HBB := Lib.hid hbb
          clear hbb
          go_wp2
          rename_i K hK
          refine wp_named (fun a0 ha0 => ?_)
          obtain ⟨M, hM⟩ : ∃ M : Act → World → Prop, M = fun a w' => ∃ gq h2 A2 n2 c2 B2 m2 d2 p2 L nl cl tk, TkS W w' w1.heap.size (w1.heap.size + 1) gq hs h A1 n1 c1 B1 m1 d1 p h2 A2 n2 c2 B2 m2 d2 p2 L tk ∧ TkP p p2 top tt hs tk N nl ∧ nl ≤ cl + 1000 ∧ a = (((((((((((((((a0.put (some 45) (.agg #[.int .i64 h, .slice A1 n1 c1, .slice B1 m1 d1])).put (some 46) (.int .i64 (top : Int))).put (some 47) (.slice (some ⟨b, off, none⟩) n c)).put (some 48) (.int .i64 (k : Int))).put (some 49) (.pointer (some ⟨b, off + k * 3, none⟩))).put (some 50) (.pointer (some ⟨b, off + k * 3 + 1, none⟩))).put (some 51) (.int .i64 N)).put (some 52) (.tuple #[.agg #[.int .i64 h2, .slice A2 n2 c2, .slice B2 m2 d2], .slice L nl cl, .bool bb])).put (some 44) (.tuple #[.agg #[.int .i64 h2, .slice A2 n2 c2, .slice B2 m2 d2], .slice L nl cl, .bool bb])).put (some 53) (.agg #[.int .i64 h2, .slice A2 n2 c2, .slice B2 m2 d2])).put (some 54) (.slice L nl cl)).put (some 55) (.bool bb)).put (some 11) (.pointer (some ⟨gq, 0, none⟩))).put (some 12) (.slice L nl cl)).put (some 13) (.bool bb)) := ⟨_, rfl⟩
          have HMI : Hid (∀ gq h2 A2 n2 c2 B2 m2 d2 p2 L nl cl tk w', TkS W w' w1.heap.size (w1.heap.size + 1) gq hs h A1 n1 c1 B1 m1 d1 p h2 A2 n2 c2 B2 m2 d2 p2 L tk → TkP p p2 top tt hs tk N nl → nl ≤ cl + 1000 → M (((((((((((((((a0.put (some 45) (.agg #[.int .i64 h, .slice A1 n1 c1, .slice B1 m1 d1])).put (some 46) (.int .i64 (top : Int))).put (some 47) (.slice (some ⟨b, off, none⟩) n c)).put (some 48) (.int .i64 (k : Int))).put (some 49) (.pointer (some ⟨b, off + k * 3, none⟩))).put (some 50) (.pointer (some ⟨b, off + k * 3 + 1, none⟩))).put (some 51) (.int .i64 N)).put (some 52) (.tuple #[.agg #[.int .i64 h2, .slice A2 n2 c2, .slice B2 m2 d2], .slice L nl cl, .bool bb])).put (some 44) (.tuple #[.agg #[.int .i64 h2, .slice A2 n2 c2, .slice B2 m2 d2], .slice L nl cl, .bool bb])).put (some 53) (.agg #[.int .i64 h2, .slice A2 n2 c2, .slice B2 m2 d2])).put (some 54) (.slice L nl cl)).put (some 55) (.bool bb)).put (some 11) (.pointer (some ⟨gq, 0, none⟩))).put (some 12) (.slice L nl cl)).put (some 13) (.bool bb)) w') := Lib.hid (fun gq h2 A2 n2 c2 B2 m2 d2 p2 L nl cl tk w' x1 x2 x3 => by rw [hM]; exact ⟨gq, h2, A2, n2, c2, B2, m2, d2, p2, L, nl, cl, tk, x1, x2, x3, rfl⟩)
          refine wp_held (fun w' : World => Below wr.heap.size wr w') M hmx ?_ ?_
          · clear hM hK
            subst ha0
            have hS0 : (fun w' : World => Below wr.heap.size wr w') wr.drew := (Below.refl _ _).drew
            refine wpAnyH_take (i := 0) (v := .agg #[.int .i64 h, .slice A1 n1 c1, .slice B1 m1 d1]) (lit rfl) (by kernel_rfl) (by kernel_rfl) (by kernel_rfl) (fun _ _ _ h => h) (Or.inl ⟨by rfl, ?_⟩) hS0 ?_
            · rintro w6 sb
              have a0 := (HS.out.below sb).box.cell 0
              have a1 := (HS.out.below sb).box.cell 1
              have a2 := (HS.out.below sb).box.cell 2
              go_simp
            simp only [Act.put, List.setIfInBounds_toArray, List.set_cons_zero, List.set_cons_succ]
            refine wpAnyH_take (i := 1) (v := .int .i64 (top : Int)) (lit rfl) (by kernel_rfl) (by kernel_rfl) (by kernel_rfl) (fun _ _ _ h => h) (Or.inl ⟨by rfl, ?_⟩) hS0 ?_
            · rintro w6 sb
              go_simp
            simp only [Act.put, List.setIfInBounds_toArray, List.set_cons_zero, List.set_cons_succ]
            refine wpAnyH_take (i := 2) (v := .slice (some ⟨b, off, none⟩) n c) (lit rfl) (by kernel_rfl) (by kernel_rfl) (by kernel_rfl) (fun _ _ _ h => h) (Or.inl ⟨by rfl, ?_⟩) hS0 ?_
            · rintro w6 sb
              go_simp
            simp only [Act.put, List.setIfInBounds_toArray, List.set_cons_zero, List.set_cons_succ]
            refine wpAnyH_take (i := 3) (v := .int .i64 (k : Int)) (lit rfl) (by kernel_rfl) (by kernel_rfl) (by kernel_rfl) (fun _ _ _ h => h) (Or.inl ⟨by rfl, ?_⟩) hS0 ?_
            · rintro w6 sb
              go_simp
            simp only [Act.put, List.setIfInBounds_toArray, List.set_cons_zero, List.set_cons_succ]
            refine wpAnyH_take (i := 4) (v := .pointer (some ⟨b, off + k * 3, none⟩)) (lit rfl) (by kernel_rfl) (by kernel_rfl) (by kernel_rfl) (fun _ _ _ h => h) (Or.inl ⟨by rfl, ?_⟩) hS0 ?_
            · rintro w6 sb
              go_simp
            simp only [Act.put, List.setIfInBounds_toArray, List.set_cons_zero, List.set_cons_succ]
            refine wpAnyH_take (i := 5) (v := .pointer (some ⟨b, off + k * 3 + 1, none⟩)) (lit rfl) (by kernel_rfl) (by kernel_rfl) (by kernel_rfl) (fun _ _ _ h => h) (Or.inl ⟨by rfl, ?_⟩) hS0 ?_
            · rintro w6 sb
              go_simp
            simp only [Act.put, List.setIfInBounds_toArray, List.set_cons_zero, List.set_cons_succ]
            refine wpAnyH_take (i := 6) (v := .int .i64 N) (lit rfl) (by kernel_rfl) (by kernel_rfl) (by kernel_rfl) (fun _ _ _ h => h) (Or.inl ⟨by rfl, ?_⟩) hS0 ?_
            · rintro w6 sb
              have e1 := (HEL.out _ (HS.out.below sb).bel).2.1
              go_simp
            simp only [Act.put, List.setIfInBounds_toArray, List.set_cons_zero, List.set_cons_succ]
            refine wpAnyH_ready (rs := [7, 12]) (by kernel_rfl) (by simp) ?_
            refine AllReadyH.cons (lit rfl) (fun K5 hK5 => ?_) (AllReadyH.cons (lit rfl) (fun K5 hK5 => ?_) AllReadyH.nil)
            · refine step_open rfl ?_
              go_simp
              go_at_call 19
              (with_reducible refine (HTF.out _ (HS.out.below hS0)).mono ?_)
              rintro e20 w20 ⟨h2, A2, n2, c2, B2, m2, d2, p2, L, nl, cl, tk, rfl, b20, pn, hp2, hrow, hTP⟩
              have s20 : (fun w' : World => Below wr.heap.size wr w') w20 := hS0.trans (b20.mono hS0.size)
              refine hK5.out _ _ s20 (fun _ => ?_)
              clear hK5 K5
              try simp only [Act.put, List.setIfInBounds_toArray, List.set_cons_zero, List.set_cons_succ]
              refine wpAnyH_take (i := 8) (v := .tuple #[.agg #[.int .i64 h2, .slice A2 n2 c2, .slice B2 m2 d2], .slice L nl cl, .bool bb]) (lit rfl) (by kernel_rfl) (by kernel_rfl) (by kernel_rfl) (fun _ _ _ h => h) (Or.inl ⟨by rfl, ?_⟩) s20 ?_
              · rintro w6 sb
                go_simp
              simp only [Act.put, List.setIfInBounds_toArray, List.set_cons_zero, List.set_cons_succ]
              refine wpAnyH_take (i := 9) (v := .agg #[.int .i64 h2, .slice A2 n2 c2, .slice B2 m2 d2]) (lit rfl) (by kernel_rfl) (by kernel_rfl) (by kernel_rfl) (fun _ _ _ h => h) (Or.inl ⟨by rfl, ?_⟩) s20 ?_
              · rintro w6 sb
                go_simp
              simp only [Act.put, List.setIfInBounds_toArray, List.set_cons_zero, List.set_cons_succ]
              refine wpAnyH_take (i := 10) (v := .slice L nl cl) (lit rfl) (by kernel_rfl) (by kernel_rfl) (by kernel_rfl) (fun _ _ _ h => h) (Or.inl ⟨by rfl, ?_⟩) s20 ?_
              · rintro w6 sb
                go_simp
              simp only [Act.put, List.setIfInBounds_toArray, List.set_cons_zero, List.set_cons_succ]
              refine wpAnyH_take (i := 11) (v := .bool bb) (lit rfl) (by kernel_rfl) (by kernel_rfl) (by kernel_rfl) (fun _ _ _ h => h) (Or.inl ⟨by rfl, ?_⟩) s20 ?_
              · rintro w6 sb
                go_simp
              simp only [Act.put, List.setIfInBounds_toArray, List.set_cons_zero, List.set_cons_succ]
              refine wpAnyH_ready (rs := [12]) (by kernel_rfl) (by simp) ?_
              refine AllReadyH.cons (lit rfl) (fun K5 hK5 => ?_) AllReadyH.nil
              refine step_open rfl ?_
              go_simp
              obtain ⟨w21, hw21⟩ : ∃ x, w20.alloc (.cells #[.int .i64 0, .slice none 0 0, .slice none 0 0] 25) = x := ⟨_, rfl⟩
              have hb21 : Has w21 w20.heap.size 25 #[.int .i64 0, .slice none 0 0, .slice none 0 0] := hw21 ▸ Has.made _ _ _
              have bb21 : Below w20.heap.size w20 w21 := hw21 ▸ (Below.refl _ _).alloc (Nat.le_refl _) _
              have s21 : (fun w' : World => Below wr.heap.size wr w') w21 := s20.trans (bb21.mono s20.size)
              have PX : PoolU (fun g => g = w1.heap.size ∨ g = w1.heap.size + 1 ∨ g = w20.heap.size) w21 A2 n2 c2 B2 m2 d2 p2 := pn.u2 bb21 (fun g hg => by have h1 := HS.out.box.lt; have h2 := Has.lt HS.out.row; have h3 : wr.drew.heap.size = wr.heap.size := rfl; omega)
              have HR21 : Row w21 3 W.heap.size L (tk.map (Value.int .i64)) := (hrow.low HS.out.bel.size).below bb21
              have hgq : wr.heap.size ≤ w20.heap.size := s20.size
              obtain ⟨gq, hgqe⟩ : ∃ G, w20.heap.size = G := ⟨_, rfl⟩
              rw [hw21]
              refine hK5.out _ _ s21 (fun _ => ?_)
              clear hK5 K5
              try simp only [Act.put, List.setIfInBounds_toArray, List.set_cons_zero, List.set_cons_succ]
              rw [hgqe] at hb21 hgq PX ⊢
              have g0 := hb21.cell 0
              have g1 := hb21.cell 1
              have g2 := hb21.cell 2
              have f0 := hb21.free 0
              have f1 := hb21.free 1
              have f2 := hb21.free 2
              refine wpAnyH_ready (rs := [13]) (by kernel_rfl) (by simp) ?_
              refine AllReadyH.cons (lit rfl) (fun K5 hK5 => ?_) AllReadyH.nil
              refine step_open rfl ?_
              go_simp
              have s22 : (fun w' : World => Below wr.heap.size wr w') (st3 w21 gq (.int .i64 h2) (.slice A2 n2 c2) (.slice B2 m2 d2)) := ((s21.setCell (p := ⟨gq, 0, none⟩) hgq _).setCell (p := ⟨gq, 1, none⟩) hgq _).setCell (p := ⟨gq, 2, none⟩) hgq _
              refine hK5.out _ _ s22 (fun _ => ?_)
              clear hK5 K5
              try simp only [Act.put, List.setIfInBounds_toArray, List.set_cons_zero, List.set_cons_succ]
              refine wpAnyH_take (i := 14) (v := .slice L nl cl) (lit rfl) (by kernel_rfl) (by kernel_rfl) (by kernel_rfl) (fun _ _ _ h => h) (Or.inl ⟨by rfl, ?_⟩) s22 ?_
              · rintro w6 sb
                go_simp
              simp only [Act.put, List.setIfInBounds_toArray, List.set_cons_zero, List.set_cons_succ]
              refine wpAnyH_take (i := 15) (v := .bool bb) (lit rfl) (by kernel_rfl) (by kernel_rfl) (by kernel_rfl) (fun _ _ _ h => h) (Or.inl ⟨by rfl, ?_⟩) s22 ?_
              · rintro w6 sb
                go_simp
              simp only [Act.put, List.setIfInBounds_toArray, List.set_cons_zero, List.set_cons_succ]
              refine wpAnyH_done (by kernel_rfl) ?_ _
              have hfin := HMI.out gq h2 A2 n2 c2 B2 m2 d2 p2 L nl cl tk _ ⟨HS.out.below s22, hb21.st3 _ _ _, (PX.turn (st3_only _ _ _) (Or.inr (Or.inr rfl))).less (fun g hg => hg.elim Or.inl (fun e => Or.inr (Or.inl e))), hp2, ((HR21.store hb21 (by decide) 0 _).store (hb21.store 0 _) (by decide) 1 _).store ((hb21.store 0 _).store 1 _) (by decide) 2 _⟩ hTP (by have := hTP.few; omega)
              simp only [Act.put, List.setIfInBounds_toArray, List.set_cons_zero, List.set_cons_succ] at hfin
              exact hfin
            · refine step_open rfl ?_
              go_simp
              obtain ⟨w19, hw19⟩ : ∃ x, (wr.alloc (.cells #[.int .i64 0, .slice none 0 0, .slice none 0 0] 25)).drew = x := ⟨_, rfl⟩
              have hb19 : Has w19 wr.heap.size 25 #[.int .i64 0, .slice none 0 0, .slice none 0 0] := hw19 ▸ (Has.made wr _ _).drew
              have s19 : (fun w' : World => Below wr.heap.size wr w') w19 := hw19 ▸ ((Below.refl _ wr).alloc (Nat.le_refl _) _).drew
              rw [hw19]
              refine hK5.out _ _ s19 (fun _ => ?_)
              clear hK5 K5
              try simp only [Act.put, List.setIfInBounds_toArray, List.set_cons_zero, List.set_cons_succ]
              refine wpAnyH_ready (rs := [7]) (by kernel_rfl) (by simp) ?_
              refine AllReadyH.cons (lit rfl) (fun K5 hK5 => ?_) AllReadyH.nil
              refine step_open rfl ?_
              go_simp
              go_at_call 19
              (with_reducible refine (HTF.out _ (HS.out.below s19)).mono ?_)
              rintro e20 w21 ⟨h2, A2, n2, c2, B2, m2, d2, p2, L, nl, cl, tk, rfl, b20, pn, hp2, hrow, hTP⟩
              have s21 : (fun w' : World => Below wr.heap.size wr w') w21 := s19.trans (b20.mono s19.size)
              refine hK5.out _ _ s21 (fun _ => ?_)
              clear hK5 K5
              try simp only [Act.put, List.setIfInBounds_toArray, List.set_cons_zero, List.set_cons_succ]
              refine wpAnyH_take (i := 8) (v := .tuple #[.agg #[.int .i64 h2, .slice A2 n2 c2, .slice B2 m2 d2], .slice L nl cl, .bool bb]) (lit rfl) (by kernel_rfl) (by kernel_rfl) (by kernel_rfl) (fun _ _ _ h => h) (Or.inl ⟨by rfl, ?_⟩) s21 ?_
              · rintro w6 sb
                go_simp
              simp only [Act.put, List.setIfInBounds_toArray, List.set_cons_zero, List.set_cons_succ]
              refine wpAnyH_take (i := 9) (v := .agg #[.int .i64 h2, .slice A2 n2 c2, .slice B2 m2 d2]) (lit rfl) (by kernel_rfl) (by kernel_rfl) (by kernel_rfl) (fun _ _ _ h => h) (Or.inl ⟨by rfl, ?_⟩) s21 ?_
              · rintro w6 sb
                go_simp
              simp only [Act.put, List.setIfInBounds_toArray, List.set_cons_zero, List.set_cons_succ]
              refine wpAnyH_take (i := 10) (v := .slice L nl cl) (lit rfl) (by kernel_rfl) (by kernel_rfl) (by kernel_rfl) (fun _ _ _ h => h) (Or.inl ⟨by rfl, ?_⟩) s21 ?_
              · rintro w6 sb
                go_simp
              simp only [Act.put, List.setIfInBounds_toArray, List.set_cons_zero, List.set_cons_succ]
              refine wpAnyH_take (i := 11) (v := .bool bb) (lit rfl) (by kernel_rfl) (by kernel_rfl) (by kernel_rfl) (fun _ _ _ h => h) (Or.inl ⟨by rfl, ?_⟩) s21 ?_
              · rintro w6 sb
                go_simp
              simp only [Act.put, List.setIfInBounds_toArray, List.set_cons_zero, List.set_cons_succ]
              have hb21 := hb19.below b20 hb19.lt
              have PX : PoolU (fun g => g = w1.heap.size ∨ g = w1.heap.size + 1 ∨ g = wr.heap.size) w21 A2 n2 c2 B2 m2 d2 p2 := pn.u (fun g hg => by have h1 := HS.out.box.lt; have h2 := Has.lt HS.out.row; have h3 := hb19.lt; have h4 := s19.size; omega)
              have HR21 : Row w21 3 W.heap.size L (tk.map (Value.int .i64)) := hrow.low (HS.out.below s19).bel.size
              have hgq : wr.heap.size ≤ wr.heap.size := Nat.le_refl _
              have g0 := hb21.cell 0
              have g1 := hb21.cell 1
              have g2 := hb21.cell 2
              have f0 := hb21.free 0
              have f1 := hb21.free 1
              have f2 := hb21.free 2
              refine wpAnyH_ready (rs := [13]) (by kernel_rfl) (by simp) ?_
              refine AllReadyH.cons (lit rfl) (fun K5 hK5 => ?_) AllReadyH.nil
              refine step_open rfl ?_
              go_simp
              have s22 : (fun w' : World => Below wr.heap.size wr w') (st3 w21 wr.heap.size (.int .i64 h2) (.slice A2 n2 c2) (.slice B2 m2 d2)) := ((s21.setCell (p := ⟨wr.heap.size, 0, none⟩) hgq _).setCell (p := ⟨wr.heap.size, 1, none⟩) hgq _).setCell (p := ⟨wr.heap.size, 2, none⟩) hgq _
              refine hK5.out _ _ s22 (fun _ => ?_)
              clear hK5 K5
              try simp only [Act.put, List.setIfInBounds_toArray, List.set_cons_zero, List.set_cons_succ]
              refine wpAnyH_take (i := 14) (v := .slice L nl cl) (lit rfl) (by kernel_rfl) (by kernel_rfl) (by kernel_rfl) (fun _ _ _ h => h) (Or.inl ⟨by rfl, ?_⟩) s22 ?_
              · rintro w6 sb
                go_simp
              simp only [Act.put, List.setIfInBounds_toArray, List.set_cons_zero, List.set_cons_succ]
              refine wpAnyH_take (i := 15) (v := .bool bb) (lit rfl) (by kernel_rfl) (by kernel_rfl) (by kernel_rfl) (fun _ _ _ h => h) (Or.inl ⟨by rfl, ?_⟩) s22 ?_
              · rintro w6 sb
                go_simp
              simp only [Act.put, List.setIfInBounds_toArray, List.set_cons_zero, List.set_cons_succ]
              refine wpAnyH_done (by kernel_rfl) ?_ _
              have hfin := HMI.out wr.heap.size h2 A2 n2 c2 B2 m2 d2 p2 L nl cl tk _ ⟨HS.out.below s22, hb21.st3 _ _ _, (PX.turn (st3_only _ _ _) (Or.inr (Or.inr rfl))).less (fun g hg => hg.elim Or.inl (fun e => Or.inr (Or.inl e))), hp2, ((HR21.store hb21 (by decide) 0 _).store (hb21.store 0 _) (by decide) 1 _).store ((hb21.store 0 _).store 1 _) (by decide) 2 _⟩ hTP (by have := hTP.few; omega)
              simp only [Act.put, List.setIfInBounds_toArray, List.set_cons_zero, List.set_cons_succ] at hfin
              exact hfin
          · intro a w' hMa
            rw [hM] at hMa
            obtain ⟨gq, h2, A2, n2, c2, B2, m2, d2, p2, L, nl, cl, tk, hTS, hTP, hncl, rfl⟩ := hMa
            clear HMI hM
            refine hK _ _ ?_
            clear hK
            subst ha0
            simp only [Act.put, List.setIfInBounds_toArray, List.set_cons_zero, List.set_cons_succ]
            obtain ⟨ro, hro⟩ : ∃ x, roomP p (top : Int) = x := ⟨_, rfl⟩
            have HTS := Lib.hid hTS
            have HTP := Lib.hid hTP
            obtain ⟨w'0, hw'0⟩ : ∃ x : World, x = w' := ⟨_, rfl⟩
            subst hw'0
            have HRM : Hid (∀ w5, Below w'0.heap.size w'0 w5 → Calls Try.prog 12 #[.agg #[.int .i64 h, .slice A1 n1 c1, .slice B1 m1 d1], .int .i64 (top : Int)] w5 fun e w' => e = .returned (.int .i64 ro) ∧ Below w5.heap.size w5 w') := Lib.hid (fun w5 b5 => hro ▸ oRoom13_any p h (top : Int) HTS.out.old.hi (HTS.out.below b5).old.pool (HKP.out.small ht1) (by omega))
            have HRB : Hid (decide (0 ≤ N ∧ N ≤ ro) = bb) := Lib.hid (hro ▸ HBB.out)
            have HYE : Hid (0 ≤ N ∧ N ≤ ro → (nl : Int) = N) := Lib.hid (hro ▸ HTP.out.yes)
            have hfew := HTP.out.few
            clear hTS hTP hro
            go_wp2
            rename_i K hK
            refine wp_named (fun a0 ha0 => ?_)
            obtain ⟨M2, hM⟩ : ∃ M : Act → World → Prop, M = fun a w' => ∃ u56' u57' u58' u59' u60' u61' u62' u63' u64' u65' u66' u67' u68' u69' u70' u71' u72' u73' u74' u75' u76' u77' u78' u79' u80' u81' u82' u83' u84' u85' u86', TkS W w' w1.heap.size (w1.heap.size + 1) gq hs h A1 n1 c1 B1 m1 d1 p h2 A2 n2 c2 B2 m2 d2 p2 L tk ∧ a = ((((((((((((((((((((((((((((((((a0.put (some 56) (u56')).put (some 57) (u57')).put (some 58) (u58')).put (some 59) (u59')).put (some 60) (u60')).put (some 61) (u61')).put (some 62) (u62')).put (some 63) (u63')).put (some 64) (u64')).put (some 65) (u65')).put (some 66) (u66')).put (some 67) (u67')).put (some 68) (u68')).put (some 69) (u69')).put (some 70) (u70')).put (some 71) (u71')).put (some 72) (u72')).put (some 73) (u73')).put (some 74) (u74')).put (some 75) (u75')).put (some 76) (u76')).put (some 77) (u77')).put (some 78) (u78')).put (some 79) (u79')).put (some 80) (u80')).put (some 81) (u81')).put (some 82) (u82')).put (some 83) (u83')).put (some 84) (u84')).put (some 85) (u85')).put (some 86) (u86')).put (some 87) (.bool false)) := ⟨_, rfl⟩
            have HMJ : Hid (∀ u56' u57' u58' u59' u60' u61' u62' u63' u64' u65' u66' u67' u68' u69' u70' u71' u72' u73' u74' u75' u76' u77' u78' u79' u80' u81' u82' u83' u84' u85' u86' w', TkS W w' w1.heap.size (w1.heap.size + 1) gq hs h A1 n1 c1 B1 m1 d1 p h2 A2 n2 c2 B2 m2 d2 p2 L tk → M2 ((((((((((((((((((((((((((((((((a0.put (some 56) (u56')).put (some 57) (u57')).put (some 58) (u58')).put (some 59) (u59')).put (some 60) (u60')).put (some 61) (u61')).put (some 62) (u62')).put (some 63) (u63')).put (some 64) (u64')).put (some 65) (u65')).put (some 66) (u66')).put (some 67) (u67')).put (some 68) (u68')).put (some 69) (u69')).put (some 70) (u70')).put (some 71) (u71')).put (some 72) (u72')).put (some 73) (u73')).put (some 74) (u74')).put (some 75) (u75')).put (some 76) (u76')).put (some 77) (u77')).put (some 78) (u78')).put (some 79) (u79')).put (some 80) (u80')).put (some 81) (u81')).put (some 82) (u82')).put (some 83) (u83')).put (some 84) (u84')).put (some 85) (u85')).put (some 86) (u86')).put (some 87) (.bool false)) w') := Lib.hid (fun u56' u57' u58' u59' u60' u61' u62' u63' u64' u65' u66' u67' u68' u69' u70' u71' u72' u73' u74' u75' u76' u77' u78' u79' u80' u81' u82' u83' u84' u85' u86' w' x1 => by rw [hM]; exact ⟨u56', u57', u58', u59', u60', u61', u62', u63', u64', u65', u66', u67', u68', u69', u70', u71', u72', u73', u74', u75', u76', u77', u78', u79', u80', u81', u82', u83', u84', u85', u86', x1, rfl⟩)
            refine wp_held (fun w' : World => Below w'0.heap.size w'0 w') M2 hmx ?_ ?_
            · clear hM hK
              subst ha0
              have hS0 : (fun w' : World => Below w'0.heap.size w'0 w') w'0.drew := (Below.refl _ _).drew
              by_cases hN0 : 0 ≤ N
              · by_cases hNr : N ≤ ro
                · obtain rfl : bb = true := by rw [← HRB.out]; exact decide_eq_true ⟨hN0, hNr⟩
                  have HNE := Lib.hid (HYE.out ⟨hN0, hNr⟩)
                  refine wpAnyH_take (i := 0) (v := .bool true) (lit rfl) (by kernel_rfl) (by kernel_rfl) (by kernel_rfl) (fun _ _ _ h => h) (Or.inl ⟨by rfl, ?_⟩) hS0 ?_
                  · rintro w6 sb
                    go_simp
                  simp only [Act.put, List.setIfInBounds_toArray, List.set_cons_zero, List.set_cons_succ]
                  refine wpAnyH_take (i := 1) (v := .slice (some ⟨b, off, none⟩) n c) (lit rfl) (by kernel_rfl) (by kernel_rfl) (by kernel_rfl) (fun _ _ _ h => h) (Or.inl ⟨by rfl, ?_⟩) hS0 ?_
                  · rintro w6 sb
                    go_simp
                  simp only [Act.put, List.setIfInBounds_toArray, List.set_cons_zero, List.set_cons_succ]
                  refine wpAnyH_take (i := 2) (v := .int .i64 (k : Int)) (lit rfl) (by kernel_rfl) (by kernel_rfl) (by kernel_rfl) (fun _ _ _ h => h) (Or.inl ⟨by rfl, ?_⟩) hS0 ?_
                  · rintro w6 sb
                    go_simp
                  simp only [Act.put, List.setIfInBounds_toArray, List.set_cons_zero, List.set_cons_succ]
                  refine wpAnyH_take (i := 3) (v := .pointer (some ⟨b, off + k * 3, none⟩)) (lit rfl) (by kernel_rfl) (by kernel_rfl) (by kernel_rfl) (fun _ _ _ h => h) (Or.inl ⟨by rfl, ?_⟩) hS0 ?_
                  · rintro w6 sb
                    go_simp
                  simp only [Act.put, List.setIfInBounds_toArray, List.set_cons_zero, List.set_cons_succ]
                  refine wpAnyH_take (i := 4) (v := .pointer (some ⟨b, off + k * 3 + 1, none⟩)) (lit rfl) (by kernel_rfl) (by kernel_rfl) (by kernel_rfl) (fun _ _ _ h => h) (Or.inl ⟨by rfl, ?_⟩) hS0 ?_
                  · rintro w6 sb
                    go_simp
                  simp only [Act.put, List.setIfInBounds_toArray, List.set_cons_zero, List.set_cons_succ]
                  refine wpAnyH_take (i := 5) (v := .int .i64 N) (lit rfl) (by kernel_rfl) (by kernel_rfl) (by kernel_rfl) (fun _ _ _ h => h) (Or.inl ⟨by rfl, ?_⟩) hS0 ?_
                  · rintro w6 sb
                    have e1 := (HEL.out _ ((HTS.out.below sb).old).bel).2.1
                    go_simp
                  simp only [Act.put, List.setIfInBounds_toArray, List.set_cons_zero, List.set_cons_succ]
                  refine wpAnyH_take (i := 6) (v := .bool true) (lit rfl) (by kernel_rfl) (by kernel_rfl) (by kernel_rfl) (fun _ _ _ h => h) (Or.inl ⟨by rfl, ?_⟩) hS0 ?_
                  · rintro w6 sb
                    go_simp
                  simp only [Act.put, List.setIfInBounds_toArray, List.set_cons_zero, List.set_cons_succ]
                  refine wpAnyH_take (i := 7) (v := .bool true) (lit rfl) (by kernel_rfl) (by kernel_rfl) (by kernel_rfl) (fun _ _ _ h => h) (Or.inl ⟨by rfl, ?_⟩) hS0 ?_
                  · rintro w6 sb
                    go_simp
                  simp only [Act.put, List.setIfInBounds_toArray, List.set_cons_zero, List.set_cons_succ]
                  refine wpAnyH_take (i := 8) (v := .slice (some ⟨b, off, none⟩) n c) (lit rfl) (by kernel_rfl) (by kernel_rfl) (by kernel_rfl) (fun _ _ _ h => h) (Or.inl ⟨by rfl, ?_⟩) hS0 ?_
                  · rintro w6 sb
                    go_simp
                  simp only [Act.put, List.setIfInBounds_toArray, List.set_cons_zero, List.set_cons_succ]
                  refine wpAnyH_take (i := 9) (v := .int .i64 (k : Int)) (lit rfl) (by kernel_rfl) (by kernel_rfl) (by kernel_rfl) (fun _ _ _ h => h) (Or.inl ⟨by rfl, ?_⟩) hS0 ?_
                  · rintro w6 sb
                    go_simp
                  simp only [Act.put, List.setIfInBounds_toArray, List.set_cons_zero, List.set_cons_succ]
                  refine wpAnyH_take (i := 10) (v := .pointer (some ⟨b, off + k * 3, none⟩)) (lit rfl) (by kernel_rfl) (by kernel_rfl) (by kernel_rfl) (fun _ _ _ h => h) (Or.inl ⟨by rfl, ?_⟩) hS0 ?_
                  · rintro w6 sb
                    go_simp
                  simp only [Act.put, List.setIfInBounds_toArray, List.set_cons_zero, List.set_cons_succ]
                  refine wpAnyH_take (i := 11) (v := .pointer (some ⟨b, off + k * 3 + 1, none⟩)) (lit rfl) (by kernel_rfl) (by kernel_rfl) (by kernel_rfl) (fun _ _ _ h => h) (Or.inl ⟨by rfl, ?_⟩) hS0 ?_
                  · rintro w6 sb
                    go_simp
                  simp only [Act.put, List.setIfInBounds_toArray, List.set_cons_zero, List.set_cons_succ]
                  refine wpAnyH_take (i := 12) (v := .int .i64 N) (lit rfl) (by kernel_rfl) (by kernel_rfl) (by kernel_rfl) (fun _ _ _ h => h) (Or.inl ⟨by rfl, ?_⟩) hS0 ?_
                  · rintro w6 sb
                    have e1 := (HEL.out _ ((HTS.out.below sb).old).bel).2.1
                    go_simp
                  simp only [Act.put, List.setIfInBounds_toArray, List.set_cons_zero, List.set_cons_succ]
                  refine wpAnyH_take (i := 13) (v := .agg #[.int .i64 h, .slice A1 n1 c1, .slice B1 m1 d1]) (lit rfl) (by kernel_rfl) (by kernel_rfl) (by kernel_rfl) (fun _ _ _ h => h) (Or.inl ⟨by rfl, ?_⟩) hS0 ?_
                  · rintro w6 sb
                    have a0 := (HTS.out.below sb).old.box.cell 0
                    have a1 := (HTS.out.below sb).old.box.cell 1
                    have a2 := (HTS.out.below sb).old.box.cell 2
                    go_simp
                  simp only [Act.put, List.setIfInBounds_toArray, List.set_cons_zero, List.set_cons_succ]
                  refine wpAnyH_take (i := 14) (v := .int .i64 (top : Int)) (lit rfl) (by kernel_rfl) (by kernel_rfl) (by kernel_rfl) (fun _ _ _ h => h) (Or.inl ⟨by rfl, ?_⟩) hS0 ?_
                  · rintro w6 sb
                    go_simp
                  simp only [Act.put, List.setIfInBounds_toArray, List.set_cons_zero, List.set_cons_succ]
                  refine wpAnyH_ready (rs := [15]) (by kernel_rfl) (by simp) ?_
                  refine AllReadyH.cons (lit rfl) (fun K5 hK5 => ?_) AllReadyH.nil
                  go_simp
                  go_at_call 12
                  (with_reducible refine (HRM.out _ hS0).mono ?_)
                  rintro e20 w20 ⟨rfl, b20⟩
                  have h20 : (fun w' : World => Below w'0.heap.size w'0 w') w20 := hS0.trans (b20.mono hS0.size)
                  refine hK5.out _ _ h20 (fun _ => ?_)
                  clear hK5 K5
                  refine wpAnyH_take (i := 16) (v := .bool true) (lit rfl) (by kernel_rfl) (by kernel_rfl) (by kernel_rfl) (fun _ _ _ h => h) (Or.inl ⟨by rfl, ?_⟩) h20 ?_
                  · rintro w6 sb
                    go_simp
                  simp only [Act.put, List.setIfInBounds_toArray, List.set_cons_zero, List.set_cons_succ]
                  refine wpAnyH_take (i := 17) (v := .bool true) (lit rfl) (by kernel_rfl) (by kernel_rfl) (by kernel_rfl) (fun _ _ _ h => h) (Or.inl ⟨by rfl, ?_⟩) h20 ?_
                  · rintro w6 sb
                    go_simp
                  simp only [Act.put, List.setIfInBounds_toArray, List.set_cons_zero, List.set_cons_succ]
                  refine wpAnyH_take (i := 18) (v := .bool false) (lit rfl) (by kernel_rfl) (by kernel_rfl) (by kernel_rfl) (fun _ _ _ h => h) (Or.inl ⟨by rfl, ?_⟩) h20 ?_
                  · rintro w6 sb
                    go_simp
                  simp only [Act.put, List.setIfInBounds_toArray, List.set_cons_zero, List.set_cons_succ]
                  refine wpAnyH_take (i := 19) (v := .bool false) (lit rfl) (by kernel_rfl) (by kernel_rfl) (by kernel_rfl) (fun _ _ _ h => h) (Or.inl ⟨by rfl, ?_⟩) h20 ?_
                  · rintro w6 sb
                    go_simp
                  simp only [Act.put, List.setIfInBounds_toArray, List.set_cons_zero, List.set_cons_succ]
                  refine wpAnyH_take (i := 20) (v := .bool true) (lit rfl) (by kernel_rfl) (by kernel_rfl) (by kernel_rfl) (fun _ _ _ h => h) (Or.inl ⟨by rfl, ?_⟩) h20 ?_
                  · rintro w6 sb
                    go_simp
                  simp only [Act.put, List.setIfInBounds_toArray, List.set_cons_zero, List.set_cons_succ]
                  refine wpAnyH_take (i := 21) (v := .bool true) (lit rfl) (by kernel_rfl) (by kernel_rfl) (by kernel_rfl) (fun _ _ _ h => h) (Or.inl ⟨by rfl, ?_⟩) h20 ?_
                  · rintro w6 sb
                    go_simp
                  simp only [Act.put, List.setIfInBounds_toArray, List.set_cons_zero, List.set_cons_succ]
                  refine wpAnyH_take (i := 22) (v := .slice L nl cl) (lit rfl) (by kernel_rfl) (by kernel_rfl) (by kernel_rfl) (fun _ _ _ h => h) (Or.inl ⟨by rfl, ?_⟩) h20 ?_
                  · rintro w6 sb
                    go_simp
                  simp only [Act.put, List.setIfInBounds_toArray, List.set_cons_zero, List.set_cons_succ]
                  refine wpAnyH_take (i := 23) (v := .int .i64 (nl : Int)) (lit rfl) (by kernel_rfl) (by kernel_rfl) (by kernel_rfl) (fun _ _ _ h => h) (Or.inl ⟨by rfl, ?_⟩) h20 ?_
                  · rintro w6 sb
                    go_simp
                  simp only [Act.put, List.setIfInBounds_toArray, List.set_cons_zero, List.set_cons_succ]
                  refine wpAnyH_take (i := 24) (v := .slice (some ⟨b, off, none⟩) n c) (lit rfl) (by kernel_rfl) (by kernel_rfl) (by kernel_rfl) (fun _ _ _ h => h) (Or.inl ⟨by rfl, ?_⟩) h20 ?_
                  · rintro w6 sb
                    go_simp
                  simp only [Act.put, List.setIfInBounds_toArray, List.set_cons_zero, List.set_cons_succ]
                  refine wpAnyH_take (i := 25) (v := .int .i64 (k : Int)) (lit rfl) (by kernel_rfl) (by kernel_rfl) (by kernel_rfl) (fun _ _ _ h => h) (Or.inl ⟨by rfl, ?_⟩) h20 ?_
                  · rintro w6 sb
                    go_simp
                  simp only [Act.put, List.setIfInBounds_toArray, List.set_cons_zero, List.set_cons_succ]
                  refine wpAnyH_take (i := 26) (v := .pointer (some ⟨b, off + k * 3, none⟩)) (lit rfl) (by kernel_rfl) (by kernel_rfl) (by kernel_rfl) (fun _ _ _ h => h) (Or.inl ⟨by rfl, ?_⟩) h20 ?_
                  · rintro w6 sb
                    go_simp
                  simp only [Act.put, List.setIfInBounds_toArray, List.set_cons_zero, List.set_cons_succ]
                  refine wpAnyH_take (i := 27) (v := .pointer (some ⟨b, off + k * 3 + 1, none⟩)) (lit rfl) (by kernel_rfl) (by kernel_rfl) (by kernel_rfl) (fun _ _ _ h => h) (Or.inl ⟨by rfl, ?_⟩) h20 ?_
                  · rintro w6 sb
                    go_simp
                  simp only [Act.put, List.setIfInBounds_toArray, List.set_cons_zero, List.set_cons_succ]
                  refine wpAnyH_take (i := 28) (v := .int .i64 N) (lit rfl) (by kernel_rfl) (by kernel_rfl) (by kernel_rfl) (fun _ _ _ h => h) (Or.inl ⟨by rfl, ?_⟩) h20 ?_
                  · rintro w6 sb
                    have e1 := (HEL.out _ ((HTS.out.below sb).old).bel).2.1
                    go_simp
                  simp only [Act.put, List.setIfInBounds_toArray, List.set_cons_zero, List.set_cons_succ]
                  refine wpAnyH_take (i := 29) (v := .bool false) (lit rfl) (by kernel_rfl) (by kernel_rfl) (by kernel_rfl) (fun _ _ _ h => h) (Or.inl ⟨by rfl, ?_⟩) h20 ?_
                  · rintro w6 sb
                    have e9 := HNE.out
                    go_simp
                  simp only [Act.put, List.setIfInBounds_toArray, List.set_cons_zero, List.set_cons_succ]
                  refine wpAnyH_take (i := 30) (v := .bool false) (lit rfl) (by kernel_rfl) (by kernel_rfl) (by kernel_rfl) (fun _ _ _ h => h) (Or.inl ⟨by rfl, ?_⟩) h20 ?_
                  · rintro w6 sb
                    go_simp
                  simp only [Act.put, List.setIfInBounds_toArray, List.set_cons_zero, List.set_cons_succ]
                  refine wpAnyH_take (i := 31) (v := .bool false) (lit rfl) (by kernel_rfl) (by kernel_rfl) (by kernel_rfl) (fun _ _ _ h => h) (Or.inl ⟨by rfl, ?_⟩) h20 ?_
                  · rintro w6 sb
                    go_simp
                  simp only [Act.put, List.setIfInBounds_toArray, List.set_cons_zero, List.set_cons_succ]
                  refine wpAnyH_done (by kernel_rfl) ?_ _
                  have hfin := HMJ.out (.bool true) (.slice (some ⟨b, off, none⟩) n c) (.int .i64 (k : Int)) (.pointer (some ⟨b, off + k * 3, none⟩)) (.pointer (some ⟨b, off + k * 3 + 1, none⟩)) (.int .i64 N) (.bool true) (.bool true) (.slice (some ⟨b, off, none⟩) n c) (.int .i64 (k : Int)) (.pointer (some ⟨b, off + k * 3, none⟩)) (.pointer (some ⟨b, off + k * 3 + 1, none⟩)) (.int .i64 N) (.agg #[.int .i64 h, .slice A1 n1 c1, .slice B1 m1 d1]) (.int .i64 (top : Int)) (.int .i64 ro) (.bool true) (.bool true) (.bool false) (.bool false) (.bool true) (.bool true) (.slice L nl cl) (.int .i64 (nl : Int)) (.slice (some ⟨b, off, none⟩) n c) (.int .i64 (k : Int)) (.pointer (some ⟨b, off + k * 3, none⟩)) (.pointer (some ⟨b, off + k * 3 + 1, none⟩)) (.int .i64 N) (.bool false) (.bool false) _ (HTS.out.below h20)
                  simp only [Act.put, List.setIfInBounds_toArray, List.set_cons_zero, List.set_cons_succ] at hfin
                  exact hfin
                · obtain rfl : bb = false := by rw [← HRB.out]; exact decide_eq_false (fun e => hNr e.2)
                  refine wpAnyH_take (i := 0) (v := .bool false) (lit rfl) (by kernel_rfl) (by kernel_rfl) (by kernel_rfl) (fun _ _ _ h => h) (Or.inl ⟨by rfl, ?_⟩) hS0 ?_
                  · rintro w6 sb
                    go_simp
                  simp only [Act.put, List.setIfInBounds_toArray, List.set_cons_zero, List.set_cons_succ]
                  refine wpAnyH_take (i := 1) (v := .slice (some ⟨b, off, none⟩) n c) (lit rfl) (by kernel_rfl) (by kernel_rfl) (by kernel_rfl) (fun _ _ _ h => h) (Or.inl ⟨by rfl, ?_⟩) hS0 ?_
                  · rintro w6 sb
                    go_simp
                  simp only [Act.put, List.setIfInBounds_toArray, List.set_cons_zero, List.set_cons_succ]
                  refine wpAnyH_take (i := 2) (v := .int .i64 (k : Int)) (lit rfl) (by kernel_rfl) (by kernel_rfl) (by kernel_rfl) (fun _ _ _ h => h) (Or.inl ⟨by rfl, ?_⟩) hS0 ?_
                  · rintro w6 sb
                    go_simp
                  simp only [Act.put, List.setIfInBounds_toArray, List.set_cons_zero, List.set_cons_succ]
                  refine wpAnyH_take (i := 3) (v := .pointer (some ⟨b, off + k * 3, none⟩)) (lit rfl) (by kernel_rfl) (by kernel_rfl) (by kernel_rfl) (fun _ _ _ h => h) (Or.inl ⟨by rfl, ?_⟩) hS0 ?_
                  · rintro w6 sb
                    go_simp
                  simp only [Act.put, List.setIfInBounds_toArray, List.set_cons_zero, List.set_cons_succ]
                  refine wpAnyH_take (i := 4) (v := .pointer (some ⟨b, off + k * 3 + 1, none⟩)) (lit rfl) (by kernel_rfl) (by kernel_rfl) (by kernel_rfl) (fun _ _ _ h => h) (Or.inl ⟨by rfl, ?_⟩) hS0 ?_
                  · rintro w6 sb
                    go_simp
                  simp only [Act.put, List.setIfInBounds_toArray, List.set_cons_zero, List.set_cons_succ]
                  refine wpAnyH_take (i := 5) (v := .int .i64 N) (lit rfl) (by kernel_rfl) (by kernel_rfl) (by kernel_rfl) (fun _ _ _ h => h) (Or.inl ⟨by rfl, ?_⟩) hS0 ?_
                  · rintro w6 sb
                    have e1 := (HEL.out _ ((HTS.out.below sb).old).bel).2.1
                    go_simp
                  simp only [Act.put, List.setIfInBounds_toArray, List.set_cons_zero, List.set_cons_succ]
                  refine wpAnyH_take (i := 6) (v := .bool true) (lit rfl) (by kernel_rfl) (by kernel_rfl) (by kernel_rfl) (fun _ _ _ h => h) (Or.inl ⟨by rfl, ?_⟩) hS0 ?_
                  · rintro w6 sb
                    go_simp
                  simp only [Act.put, List.setIfInBounds_toArray, List.set_cons_zero, List.set_cons_succ]
                  refine wpAnyH_take (i := 7) (v := .bool true) (lit rfl) (by kernel_rfl) (by kernel_rfl) (by kernel_rfl) (fun _ _ _ h => h) (Or.inl ⟨by rfl, ?_⟩) hS0 ?_
                  · rintro w6 sb
                    go_simp
                  simp only [Act.put, List.setIfInBounds_toArray, List.set_cons_zero, List.set_cons_succ]
                  refine wpAnyH_take (i := 8) (v := .slice (some ⟨b, off, none⟩) n c) (lit rfl) (by kernel_rfl) (by kernel_rfl) (by kernel_rfl) (fun _ _ _ h => h) (Or.inl ⟨by rfl, ?_⟩) hS0 ?_
                  · rintro w6 sb
                    go_simp
                  simp only [Act.put, List.setIfInBounds_toArray, List.set_cons_zero, List.set_cons_succ]
                  refine wpAnyH_take (i := 9) (v := .int .i64 (k : Int)) (lit rfl) (by kernel_rfl) (by kernel_rfl) (by kernel_rfl) (fun _ _ _ h => h) (Or.inl ⟨by rfl, ?_⟩) hS0 ?_
                  · rintro w6 sb
                    go_simp
                  simp only [Act.put, List.setIfInBounds_toArray, List.set_cons_zero, List.set_cons_succ]
                  refine wpAnyH_take (i := 10) (v := .pointer (some ⟨b, off + k * 3, none⟩)) (lit rfl) (by kernel_rfl) (by kernel_rfl) (by kernel_rfl) (fun _ _ _ h => h) (Or.inl ⟨by rfl, ?_⟩) hS0 ?_
                  · rintro w6 sb
                    go_simp
                  simp only [Act.put, List.setIfInBounds_toArray, List.set_cons_zero, List.set_cons_succ]
                  refine wpAnyH_take (i := 11) (v := .pointer (some ⟨b, off + k * 3 + 1, none⟩)) (lit rfl) (by kernel_rfl) (by kernel_rfl) (by kernel_rfl) (fun _ _ _ h => h) (Or.inl ⟨by rfl, ?_⟩) hS0 ?_
                  · rintro w6 sb
                    go_simp
                  simp only [Act.put, List.setIfInBounds_toArray, List.set_cons_zero, List.set_cons_succ]
                  refine wpAnyH_take (i := 12) (v := .int .i64 N) (lit rfl) (by kernel_rfl) (by kernel_rfl) (by kernel_rfl) (fun _ _ _ h => h) (Or.inl ⟨by rfl, ?_⟩) hS0 ?_
                  · rintro w6 sb
                    have e1 := (HEL.out _ ((HTS.out.below sb).old).bel).2.1
                    go_simp
                  simp only [Act.put, List.setIfInBounds_toArray, List.set_cons_zero, List.set_cons_succ]
                  refine wpAnyH_take (i := 13) (v := .agg #[.int .i64 h, .slice A1 n1 c1, .slice B1 m1 d1]) (lit rfl) (by kernel_rfl) (by kernel_rfl) (by kernel_rfl) (fun _ _ _ h => h) (Or.inl ⟨by rfl, ?_⟩) hS0 ?_
                  · rintro w6 sb
                    have a0 := (HTS.out.below sb).old.box.cell 0
                    have a1 := (HTS.out.below sb).old.box.cell 1
                    have a2 := (HTS.out.below sb).old.box.cell 2
                    go_simp
                  simp only [Act.put, List.setIfInBounds_toArray, List.set_cons_zero, List.set_cons_succ]
                  refine wpAnyH_take (i := 14) (v := .int .i64 (top : Int)) (lit rfl) (by kernel_rfl) (by kernel_rfl) (by kernel_rfl) (fun _ _ _ h => h) (Or.inl ⟨by rfl, ?_⟩) hS0 ?_
                  · rintro w6 sb
                    go_simp
                  simp only [Act.put, List.setIfInBounds_toArray, List.set_cons_zero, List.set_cons_succ]
                  refine wpAnyH_ready (rs := [15]) (by kernel_rfl) (by simp) ?_
                  refine AllReadyH.cons (lit rfl) (fun K5 hK5 => ?_) AllReadyH.nil
                  go_simp
                  go_at_call 12
                  (with_reducible refine (HRM.out _ hS0).mono ?_)
                  rintro e20 w20 ⟨rfl, b20⟩
                  have h20 : (fun w' : World => Below w'0.heap.size w'0 w') w20 := hS0.trans (b20.mono hS0.size)
                  refine hK5.out _ _ h20 (fun _ => ?_)
                  clear hK5 K5
                  refine wpAnyH_take (i := 16) (v := .bool false) (lit rfl) (by kernel_rfl) (by kernel_rfl) (by kernel_rfl) (fun _ _ _ h => h) (Or.inl ⟨by rfl, ?_⟩) h20 ?_
                  · rintro w6 sb
                    go_simp
                  simp only [Act.put, List.setIfInBounds_toArray, List.set_cons_zero, List.set_cons_succ]
                  refine wpAnyH_take (i := 17) (v := .bool false) (lit rfl) (by kernel_rfl) (by kernel_rfl) (by kernel_rfl) (fun _ _ _ h => h) (Or.inl ⟨by rfl, ?_⟩) h20 ?_
                  · rintro w6 sb
                    go_simp
                  simp only [Act.put, List.setIfInBounds_toArray, List.set_cons_zero, List.set_cons_succ]
                  refine wpAnyH_take (i := 18) (v := .bool false) (lit rfl) (by kernel_rfl) (by kernel_rfl) (by kernel_rfl) (fun _ _ _ h => h) (Or.inl ⟨by rfl, ?_⟩) h20 ?_
                  · rintro w6 sb
                    go_simp
                  simp only [Act.put, List.setIfInBounds_toArray, List.set_cons_zero, List.set_cons_succ]
                  refine wpAnyH_take (i := 19) (v := .bool false) (lit rfl) (by kernel_rfl) (by kernel_rfl) (by kernel_rfl) (fun _ _ _ h => h) (Or.inl ⟨by rfl, ?_⟩) h20 ?_
                  · rintro w6 sb
                    go_simp
                  simp only [Act.put, List.setIfInBounds_toArray, List.set_cons_zero, List.set_cons_succ]
                  refine wpAnyH_take (i := 20) (v := .bool false) (lit rfl) (by kernel_rfl) (by kernel_rfl) (by kernel_rfl) (fun _ _ _ h => h) (Or.inl ⟨by rfl, ?_⟩) h20 ?_
                  · rintro w6 sb
                    go_simp
                  simp only [Act.put, List.setIfInBounds_toArray, List.set_cons_zero, List.set_cons_succ]
                  refine wpAnyH_take (i := 21) (v := .bool false) (lit rfl) (by kernel_rfl) (by kernel_rfl) (by kernel_rfl) (fun _ _ _ h => h) (Or.inl ⟨by rfl, ?_⟩) h20 ?_
                  · rintro w6 sb
                    go_simp
                  simp only [Act.put, List.setIfInBounds_toArray, List.set_cons_zero, List.set_cons_succ]
                  refine wpAnyH_take (i := 22) (v := undef) (lit rfl) (by kernel_rfl) (by kernel_rfl) (by kernel_rfl) (fun _ _ _ h => h) (Or.inr ⟨by rfl, rfl⟩) h20 ?_
                  simp only [Act.put, List.setIfInBounds_toArray, List.set_cons_zero, List.set_cons_succ]
                  refine wpAnyH_take (i := 23) (v := undef) (lit rfl) (by kernel_rfl) (by kernel_rfl) (by kernel_rfl) (fun _ _ _ h => h) (Or.inr ⟨by rfl, rfl⟩) h20 ?_
                  simp only [Act.put, List.setIfInBounds_toArray, List.set_cons_zero, List.set_cons_succ]
                  refine wpAnyH_take (i := 24) (v := undef) (lit rfl) (by kernel_rfl) (by kernel_rfl) (by kernel_rfl) (fun _ _ _ h => h) (Or.inr ⟨by rfl, rfl⟩) h20 ?_
                  simp only [Act.put, List.setIfInBounds_toArray, List.set_cons_zero, List.set_cons_succ]
                  refine wpAnyH_take (i := 25) (v := undef) (lit rfl) (by kernel_rfl) (by kernel_rfl) (by kernel_rfl) (fun _ _ _ h => h) (Or.inr ⟨by rfl, rfl⟩) h20 ?_
                  simp only [Act.put, List.setIfInBounds_toArray, List.set_cons_zero, List.set_cons_succ]
                  refine wpAnyH_take (i := 26) (v := undef) (lit rfl) (by kernel_rfl) (by kernel_rfl) (by kernel_rfl) (fun _ _ _ h => h) (Or.inr ⟨by rfl, rfl⟩) h20 ?_
                  simp only [Act.put, List.setIfInBounds_toArray, List.set_cons_zero, List.set_cons_succ]
                  refine wpAnyH_take (i := 27) (v := undef) (lit rfl) (by kernel_rfl) (by kernel_rfl) (by kernel_rfl) (fun _ _ _ h => h) (Or.inr ⟨by rfl, rfl⟩) h20 ?_
                  simp only [Act.put, List.setIfInBounds_toArray, List.set_cons_zero, List.set_cons_succ]
                  refine wpAnyH_take (i := 28) (v := undef) (lit rfl) (by kernel_rfl) (by kernel_rfl) (by kernel_rfl) (fun _ _ _ h => h) (Or.inr ⟨by rfl, rfl⟩) h20 ?_
                  simp only [Act.put, List.setIfInBounds_toArray, List.set_cons_zero, List.set_cons_succ]
                  refine wpAnyH_take (i := 29) (v := undef) (lit rfl) (by kernel_rfl) (by kernel_rfl) (by kernel_rfl) (fun _ _ _ h => h) (Or.inr ⟨by rfl, rfl⟩) h20 ?_
                  simp only [Act.put, List.setIfInBounds_toArray, List.set_cons_zero, List.set_cons_succ]
                  refine wpAnyH_take (i := 30) (v := .bool false) (lit rfl) (by kernel_rfl) (by kernel_rfl) (by kernel_rfl) (fun _ _ _ h => h) (Or.inl ⟨by rfl, ?_⟩) h20 ?_
                  · rintro w6 sb
                    go_simp
                  simp only [Act.put, List.setIfInBounds_toArray, List.set_cons_zero, List.set_cons_succ]
                  refine wpAnyH_take (i := 31) (v := .bool false) (lit rfl) (by kernel_rfl) (by kernel_rfl) (by kernel_rfl) (fun _ _ _ h => h) (Or.inl ⟨by rfl, ?_⟩) h20 ?_
                  · rintro w6 sb
                    go_simp
                  simp only [Act.put, List.setIfInBounds_toArray, List.set_cons_zero, List.set_cons_succ]
                  refine wpAnyH_done (by kernel_rfl) ?_ _
                  have hfin := HMJ.out (.bool false) (.slice (some ⟨b, off, none⟩) n c) (.int .i64 (k : Int)) (.pointer (some ⟨b, off + k * 3, none⟩)) (.pointer (some ⟨b, off + k * 3 + 1, none⟩)) (.int .i64 N) (.bool true) (.bool true) (.slice (some ⟨b, off, none⟩) n c) (.int .i64 (k : Int)) (.pointer (some ⟨b, off + k * 3, none⟩)) (.pointer (some ⟨b, off + k * 3 + 1, none⟩)) (.int .i64 N) (.agg #[.int .i64 h, .slice A1 n1 c1, .slice B1 m1 d1]) (.int .i64 (top : Int)) (.int .i64 ro) (.bool false) (.bool false) (.bool false) (.bool false) (.bool false) (.bool false) (undef) (undef) (undef) (undef) (undef) (undef) (undef) (undef) (.bool false) _ (HTS.out.below h20)
                  simp only [Act.put, List.setIfInBounds_toArray, List.set_cons_zero, List.set_cons_succ] at hfin
                  exact hfin
              · obtain rfl : bb = false := by rw [← HRB.out]; exact decide_eq_false (fun e => hN0 e.1)
                refine wpAnyH_take (i := 0) (v := .bool false) (lit rfl) (by kernel_rfl) (by kernel_rfl) (by kernel_rfl) (fun _ _ _ h => h) (Or.inl ⟨by rfl, ?_⟩) hS0 ?_
                · rintro w6 sb
                  go_simp
                simp only [Act.put, List.setIfInBounds_toArray, List.set_cons_zero, List.set_cons_succ]
                refine wpAnyH_take (i := 1) (v := .slice (some ⟨b, off, none⟩) n c) (lit rfl) (by kernel_rfl) (by kernel_rfl) (by kernel_rfl) (fun _ _ _ h => h) (Or.inl ⟨by rfl, ?_⟩) hS0 ?_
                · rintro w6 sb
                  go_simp
                simp only [Act.put, List.setIfInBounds_toArray, List.set_cons_zero, List.set_cons_succ]
                refine wpAnyH_take (i := 2) (v := .int .i64 (k : Int)) (lit rfl) (by kernel_rfl) (by kernel_rfl) (by kernel_rfl) (fun _ _ _ h => h) (Or.inl ⟨by rfl, ?_⟩) hS0 ?_
                · rintro w6 sb
                  go_simp
                simp only [Act.put, List.setIfInBounds_toArray, List.set_cons_zero, List.set_cons_succ]
                refine wpAnyH_take (i := 3) (v := .pointer (some ⟨b, off + k * 3, none⟩)) (lit rfl) (by kernel_rfl) (by kernel_rfl) (by kernel_rfl) (fun _ _ _ h => h) (Or.inl ⟨by rfl, ?_⟩) hS0 ?_
                · rintro w6 sb
                  go_simp
                simp only [Act.put, List.setIfInBounds_toArray, List.set_cons_zero, List.set_cons_succ]
                refine wpAnyH_take (i := 4) (v := .pointer (some ⟨b, off + k * 3 + 1, none⟩)) (lit rfl) (by kernel_rfl) (by kernel_rfl) (by kernel_rfl) (fun _ _ _ h => h) (Or.inl ⟨by rfl, ?_⟩) hS0 ?_
                · rintro w6 sb
                  go_simp
                simp only [Act.put, List.setIfInBounds_toArray, List.set_cons_zero, List.set_cons_succ]
                refine wpAnyH_take (i := 5) (v := .int .i64 N) (lit rfl) (by kernel_rfl) (by kernel_rfl) (by kernel_rfl) (fun _ _ _ h => h) (Or.inl ⟨by rfl, ?_⟩) hS0 ?_
                · rintro w6 sb
                  have e1 := (HEL.out _ ((HTS.out.below sb).old).bel).2.1
                  go_simp
                simp only [Act.put, List.setIfInBounds_toArray, List.set_cons_zero, List.set_cons_succ]
                refine wpAnyH_take (i := 6) (v := .bool false) (lit rfl) (by kernel_rfl) (by kernel_rfl) (by kernel_rfl) (fun _ _ _ h => h) (Or.inl ⟨by rfl, ?_⟩) hS0 ?_
                · rintro w6 sb
                  go_simp
                simp only [Act.put, List.setIfInBounds_toArray, List.set_cons_zero, List.set_cons_succ]
                refine wpAnyH_take (i := 7) (v := .bool false) (lit rfl) (by kernel_rfl) (by kernel_rfl) (by kernel_rfl) (fun _ _ _ h => h) (Or.inl ⟨by rfl, ?_⟩) hS0 ?_
                · rintro w6 sb
                  go_simp
                simp only [Act.put, List.setIfInBounds_toArray, List.set_cons_zero, List.set_cons_succ]
                refine wpAnyH_take (i := 8) (v := undef) (lit rfl) (by kernel_rfl) (by kernel_rfl) (by kernel_rfl) (fun _ _ _ h => h) (Or.inr ⟨by rfl, rfl⟩) hS0 ?_
                simp only [Act.put, List.setIfInBounds_toArray, List.set_cons_zero, List.set_cons_succ]
                refine wpAnyH_take (i := 9) (v := undef) (lit rfl) (by kernel_rfl) (by kernel_rfl) (by kernel_rfl) (fun _ _ _ h => h) (Or.inr ⟨by rfl, rfl⟩) hS0 ?_
                simp only [Act.put, List.setIfInBounds_toArray, List.set_cons_zero, List.set_cons_succ]
                refine wpAnyH_take (i := 10) (v := undef) (lit rfl) (by kernel_rfl) (by kernel_rfl) (by kernel_rfl) (fun _ _ _ h => h) (Or.inr ⟨by rfl, rfl⟩) hS0 ?_
                simp only [Act.put, List.setIfInBounds_toArray, List.set_cons_zero, List.set_cons_succ]
                refine wpAnyH_take (i := 11) (v := undef) (lit rfl) (by kernel_rfl) (by kernel_rfl) (by kernel_rfl) (fun _ _ _ h => h) (Or.inr ⟨by rfl, rfl⟩) hS0 ?_
                simp only [Act.put, List.setIfInBounds_toArray, List.set_cons_zero, List.set_cons_succ]
                refine wpAnyH_take (i := 12) (v := undef) (lit rfl) (by kernel_rfl) (by kernel_rfl) (by kernel_rfl) (fun _ _ _ h => h) (Or.inr ⟨by rfl, rfl⟩) hS0 ?_
                simp only [Act.put, List.setIfInBounds_toArray, List.set_cons_zero, List.set_cons_succ]
                refine wpAnyH_take (i := 13) (v := undef) (lit rfl) (by kernel_rfl) (by kernel_rfl) (by kernel_rfl) (fun _ _ _ h => h) (Or.inr ⟨by rfl, rfl⟩) hS0 ?_
                simp only [Act.put, List.setIfInBounds_toArray, List.set_cons_zero, List.set_cons_succ]
                refine wpAnyH_take (i := 14) (v := undef) (lit rfl) (by kernel_rfl) (by kernel_rfl) (by kernel_rfl) (fun _ _ _ h => h) (Or.inr ⟨by rfl, rfl⟩) hS0 ?_
                simp only [Act.put, List.setIfInBounds_toArray, List.set_cons_zero, List.set_cons_succ]
                refine wpAnyH_take (i := 15) (v := undef) (lit rfl) (by kernel_rfl) (by kernel_rfl) (by kernel_rfl) (fun _ _ _ h => h) (Or.inr ⟨by rfl, rfl⟩) hS0 ?_
                simp only [Act.put, List.setIfInBounds_toArray, List.set_cons_zero, List.set_cons_succ]
                refine wpAnyH_take (i := 16) (v := undef) (lit rfl) (by kernel_rfl) (by kernel_rfl) (by kernel_rfl) (fun _ _ _ h => h) (Or.inr ⟨by rfl, rfl⟩) hS0 ?_
                simp only [Act.put, List.setIfInBounds_toArray, List.set_cons_zero, List.set_cons_succ]
                refine wpAnyH_take (i := 17) (v := .bool false) (lit rfl) (by kernel_rfl) (by kernel_rfl) (by kernel_rfl) (fun _ _ _ h => h) (Or.inl ⟨by rfl, ?_⟩) hS0 ?_
                · rintro w6 sb
                  go_simp
                simp only [Act.put, List.setIfInBounds_toArray, List.set_cons_zero, List.set_cons_succ]
                refine wpAnyH_take (i := 18) (v := .bool false) (lit rfl) (by kernel_rfl) (by kernel_rfl) (by kernel_rfl) (fun _ _ _ h => h) (Or.inl ⟨by rfl, ?_⟩) hS0 ?_
                · rintro w6 sb
                  go_simp
                simp only [Act.put, List.setIfInBounds_toArray, List.set_cons_zero, List.set_cons_succ]
                refine wpAnyH_take (i := 19) (v := .bool false) (lit rfl) (by kernel_rfl) (by kernel_rfl) (by kernel_rfl) (fun _ _ _ h => h) (Or.inl ⟨by rfl, ?_⟩) hS0 ?_
                · rintro w6 sb
                  go_simp
                simp only [Act.put, List.setIfInBounds_toArray, List.set_cons_zero, List.set_cons_succ]
                refine wpAnyH_take (i := 20) (v := .bool false) (lit rfl) (by kernel_rfl) (by kernel_rfl) (by kernel_rfl) (fun _ _ _ h => h) (Or.inl ⟨by rfl, ?_⟩) hS0 ?_
                · rintro w6 sb
                  go_simp
                simp only [Act.put, List.setIfInBounds_toArray, List.set_cons_zero, List.set_cons_succ]
                refine wpAnyH_take (i := 21) (v := .bool false) (lit rfl) (by kernel_rfl) (by kernel_rfl) (by kernel_rfl) (fun _ _ _ h => h) (Or.inl ⟨by rfl, ?_⟩) hS0 ?_
                · rintro w6 sb
                  go_simp
                simp only [Act.put, List.setIfInBounds_toArray, List.set_cons_zero, List.set_cons_succ]
                refine wpAnyH_take (i := 22) (v := undef) (lit rfl) (by kernel_rfl) (by kernel_rfl) (by kernel_rfl) (fun _ _ _ h => h) (Or.inr ⟨by rfl, rfl⟩) hS0 ?_
                simp only [Act.put, List.setIfInBounds_toArray, List.set_cons_zero, List.set_cons_succ]
                refine wpAnyH_take (i := 23) (v := undef) (lit rfl) (by kernel_rfl) (by kernel_rfl) (by kernel_rfl) (fun _ _ _ h => h) (Or.inr ⟨by rfl, rfl⟩) hS0 ?_
                simp only [Act.put, List.setIfInBounds_toArray, List.set_cons_zero, List.set_cons_succ]
                refine wpAnyH_take (i := 24) (v := undef) (lit rfl) (by kernel_rfl) (by kernel_rfl) (by kernel_rfl) (fun _ _ _ h => h) (Or.inr ⟨by rfl, rfl⟩) hS0 ?_
                simp only [Act.put, List.setIfInBounds_toArray, List.set_cons_zero, List.set_cons_succ]
                refine wpAnyH_take (i := 25) (v := undef) (lit rfl) (by kernel_rfl) (by kernel_rfl) (by kernel_rfl) (fun _ _ _ h => h) (Or.inr ⟨by rfl, rfl⟩) hS0 ?_
                simp only [Act.put, List.setIfInBounds_toArray, List.set_cons_zero, List.set_cons_succ]
                refine wpAnyH_take (i := 26) (v := undef) (lit rfl) (by kernel_rfl) (by kernel_rfl) (by kernel_rfl) (fun _ _ _ h => h) (Or.inr ⟨by rfl, rfl⟩) hS0 ?_
                simp only [Act.put, List.setIfInBounds_toArray, List.set_cons_zero, List.set_cons_succ]
                refine wpAnyH_take (i := 27) (v := undef) (lit rfl) (by kernel_rfl) (by kernel_rfl) (by kernel_rfl) (fun _ _ _ h => h) (Or.inr ⟨by rfl, rfl⟩) hS0 ?_
                simp only [Act.put, List.setIfInBounds_toArray, List.set_cons_zero, List.set_cons_succ]
                refine wpAnyH_take (i := 28) (v := undef) (lit rfl) (by kernel_rfl) (by kernel_rfl) (by kernel_rfl) (fun _ _ _ h => h) (Or.inr ⟨by rfl, rfl⟩) hS0 ?_
                simp only [Act.put, List.setIfInBounds_toArray, List.set_cons_zero, List.set_cons_succ]
                refine wpAnyH_take (i := 29) (v := undef) (lit rfl) (by kernel_rfl) (by kernel_rfl) (by kernel_rfl) (fun _ _ _ h => h) (Or.inr ⟨by rfl, rfl⟩) hS0 ?_
                simp only [Act.put, List.setIfInBounds_toArray, List.set_cons_zero, List.set_cons_succ]
                refine wpAnyH_take (i := 30) (v := .bool false) (lit rfl) (by kernel_rfl) (by kernel_rfl) (by kernel_rfl) (fun _ _ _ h => h) (Or.inl ⟨by rfl, ?_⟩) hS0 ?_
                · rintro w6 sb
                  go_simp
                simp only [Act.put, List.setIfInBounds_toArray, List.set_cons_zero, List.set_cons_succ]
                refine wpAnyH_take (i := 31) (v := .bool false) (lit rfl) (by kernel_rfl) (by kernel_rfl) (by kernel_rfl) (fun _ _ _ h => h) (Or.inl ⟨by rfl, ?_⟩) hS0 ?_
                · rintro w6 sb
                  go_simp
                simp only [Act.put, List.setIfInBounds_toArray, List.set_cons_zero, List.set_cons_succ]
                refine wpAnyH_done (by kernel_rfl) ?_ _
                have hfin := HMJ.out (.bool false) (.slice (some ⟨b, off, none⟩) n c) (.int .i64 (k : Int)) (.pointer (some ⟨b, off + k * 3, none⟩)) (.pointer (some ⟨b, off + k * 3 + 1, none⟩)) (.int .i64 N) (.bool false) (.bool false) (undef) (undef) (undef) (undef) (undef) (undef) (undef) (undef) (undef) (.bool false) (.bool false) (.bool false) (.bool false) (.bool false) (undef) (undef) (undef) (undef) (undef) (undef) (undef) (undef) (.bool false) _ (HTS.out.below hS0)
                simp only [Act.put, List.setIfInBounds_toArray, List.set_cons_zero, List.set_cons_succ] at hfin
                exact hfin
            · intro a w' hMa
              rw [hM] at hMa
              obtain ⟨u56', u57', u58', u59', u60', u61', u62', u63', u64', u65', u66', u67', u68', u69', u70', u71', u72', u73', u74', u75', u76', u77', u78', u79', u80', u81', u82', u83', u84', u85', u86', hTS, rfl⟩ := hMa
              clear HMJ hM
              refine hK _ _ ?_
              clear hK
              subst ha0
              simp only [Act.put, List.setIfInBounds_toArray, List.set_cons_zero, List.set_cons_succ]
              have HTS := Lib.hid hTS
              clear hTS HRM HRB HYE
              go_wp2
              go_loopw [14] (fun i wr => ∃ j : Nat, j ≤ nl ∧ i = .int .i64 (j : Int) ∧ TkS W wr w1.heap.size (w1.heap.size + 1) gq (orL hs (tk.take j)) h A1 n1 c1 B1 m1 d1 p h2 A2 n2 c2 B2 m2 d2 p2 L tk) (fun i _ => nl - (intOf i).toNat)
              case atStart => exact ⟨0, Nat.zero_le _, rfl, by rw [List.take_zero, orL_nil]; exact HTS.out⟩
              case round =>
                obtain ⟨j, hj, rfl, hTJ⟩ := hrel
                have HJ := Lib.hid hTJ
                clear hTJ
                by_cases hjl : j < nl
                · have hjt : j < tk.length := by have := HTP.out.len; omega
                  obtain ⟨gl, ol, hLe, hcl⟩ := HJ.out.row.reads.zint hjt
                  subst hLe
                  obtain ⟨y, hy⟩ : ∃ y, tk[j] = y := ⟨_, rfl⟩
                  have hyo := HTP.out.out y (hy ▸ List.getElem_mem hjt)
                  obtain ⟨x, rfl⟩ : ∃ x : Nat, y = (x : Int) := ⟨y.toNat, by omega⟩
                  rw [hy] at hcl
                  rw [Int.toNat_natCast] at hyo
                  obtain ⟨hy1, hy2, hy3⟩ := hyo
                  have HTN : Hid (tk.take (j + 1) = tk.take j ++ [(x : Int)]) := Lib.hid (by rw [List.take_succ_eq_append_getElem hjt, hy])
                  have hnot : ¬ (x : Int) ∈ tk.take j := fun e => by
                    obtain ⟨i, hi, he⟩ := List.mem_iff_getElem.1 e
                    rw [List.length_take] at hi
                    rw [List.getElem_take, ← hy] at he
                    exact (List.pairwise_iff_getElem.1 HTP.out.once i j (by omega) hjt (by omega)) he
                  have hxt : x < top := by omega
                  have hrow := HJ.out.old.row
                  have hmk1 := HJ.out.old.at (k := x) (by rw [orL_len, HKP.out.len]; exact hxt)
                  rw [orL_get (by rw [HKP.out.len]; exact hxt), hy3, decide_eq_false hnot] at hmk1
                  have hmk2 : wr.cell? ⟨w1.heap.size + 1, x, none⟩ = some (.bool false) := hmk1
                  have hfr := Has.free hrow x
                  have j0 : (0 : Int) ≤ (j : Int) := by omega
                  have j1 : (j : Int) < (nl : Int) := by omega
                  have x0 : (0 : Int) ≤ (x : Int) := by omega
                  have x2 : ¬ (x : Int) < 2 := by omega
                  have x3 : ¬ (top : Int) ≤ (x : Int) := by omega
                  have x4 : 2 ≤ x := by omega
                  have HX9 := Lib.hid hxt
                  clear hmk1 hrow hnot hy3 hy hjt
                  go_wp2
                  go_roundw
                  case rel => exact ⟨j + 1, by omega, by go_num, by rw [HTN.out, ← orL_set]; exact HJ.out.mark x⟩
                  case measure => simp [intOf]; omega
                · obtain rfl : j = nl := by omega
                  have hltj : ¬ (j : Int) < (j : Int) := by omega
                  have HJE : Hid (tk.take j = tk) := Lib.hid (List.take_of_length_le (by have := HTP.out.len; omega))
                  rw [HJE.out] at HJ
                  have c0 := HJ.out.box.cell 0
                  have c1' := HJ.out.box.cell 1
                  have c2' := HJ.out.box.cell 2
                  have g0 := HJ.out.old.box.cell 0
                  have g1 := HJ.out.old.box.cell 1
                  have g2 := HJ.out.old.box.cell 2
                  have f0 := HJ.out.old.box.free 0
                  have f1 := HJ.out.old.box.free 1
                  have f2 := HJ.out.old.box.free 2
                  have T0 := Lib.hid HJ.out.put
                  have TP := Lib.hid HTP.out.kp
                  go_upto_region 38 with fail
                  obtain ⟨v4, hv4⟩ : ∃ x, st3 wr w1.heap.size (.int .i64 h2) (.slice A2 n2 c2) (.slice B2 m2 d2) = x := ⟨_, rfl⟩
                  rw [hv4] at T0
                  unfold st3 at hv4
                  rw [hv4]
                  obtain ⟨hs2, hh2⟩ : ∃ x, orL hs tk = x := ⟨_, rfl⟩
                  rw [hh2] at T0 TP
                  clear hv4 hh2 f0 f1 f2 g0 g1 g2 c0 c1' c2' hj
                  obtain ⟨nL, hnL⟩ : ∃ nL, (listedP p2).length = nL := ⟨_, rfl⟩
                  obtain ⟨nW, hnW⟩ : ∃ nW, (catZ p2.wait).length = nW := ⟨_, rfl⟩
                  have HLS := Lib.hid (fun w5 (s : KpS W w5 w1.heap.size (w1.heap.size + 1) hs2 h2 A2 n2 c2 B2 m2 d2 p2) => s.list TP.out ht1)
                  have HCK := Lib.hid (fun w5 (s : KpS W w5 w1.heap.size (w1.heap.size + 1) hs2 h2 A2 n2 c2 B2 m2 d2 p2) => s.check TP.out ht1)
                  have HWT := Lib.hid (fun w5 (s : KpS W w5 w1.heap.size (w1.heap.size + 1) hs2 h2 A2 n2 c2 B2 m2 d2 p2) => s.waits TP.out ht1)
                  rw [hnL] at HLS
                  rw [hnW] at HWT
                  have hcn := TP.out.count
                  rw [hnL, T0.out.hi] at hcn
                  have HCN : Hid (((nL + cntTo hs2 top : Nat) : Int) = h2 - 2) := Lib.hid hcn
                  have hln : (listedP p2).length = p2.free.length + (catZ p2.wait).length := by unfold listedP; rw [srtZ_len, List.length_append]
                  have hfr : n2 = p2.free.length := T0.out.pool.free.len
                  rw [hnL, hnW, ← hfr] at hln
                  have hsm := TP.out.small ht1
                  unfold smallR at hsm
                  rw [hnW, ← hfr, T0.out.hi] at hsm
                  have hw17 : IntKind.i64.wrap ((n2 : Int) + (nW : Int)) = (nL : Int) := by rw [IntKind.wrap_i64]; omega
                  have hw8 : IntKind.i64.wrap (h2 - 2) = h2 - 2 := by rw [IntKind.wrap_i64]; omega
                  have hb1 : h2 ≤ 2097152 := by omega
                  have hb0 : -4096 ≤ h2 := by omega
                  have HNL : Hid (nL ≤ 10000) := Lib.hid (by omega)
                  have HLE := Lib.hid TP.out.len
                  clear hnL hnW hcn hln hfr hsm
                  have y0 := T0.out.box.cell 0
                  have y1 := T0.out.box.cell 1
                  have y2 := T0.out.box.cell 2
                  go_wp2_with (go_at_call 17; (with_reducible refine (HLS.out _ T0.out).mono ?_); rintro e w6 ⟨L6, c6, rfl, h6⟩; have T6 := Lib.hid h6; clear h6)
                  obtain ⟨wo, hwo⟩ : ∃ wo : World, wo = wr := ⟨_, rfl⟩
                  go_loopw [17, 18] (fun v i wr => ∃ j : Nat, j ≤ top ∧ i = .int .i64 (j : Int) ∧ v = .int .i64 ((nL + cntTo hs2 j : Nat) : Int) ∧ KpS W wr w1.heap.size (w1.heap.size + 1) hs2 h2 A2 n2 c2 B2 m2 d2 p2) (fun _ i _ => top - (intOf i).toNat)
                  case atStart => exact ⟨0, Nat.zero_le _, rfl, rfl, T6.out⟩
                  case round =>
                    obtain ⟨j, hj, rfl, hvj, hS⟩ := hrel
                    have SJ := Lib.hid hS
                    clear hS
                    by_cases hjt : j < top
                    · subst hvj
                      have hcj := SJ.out.at (show j < hs2.length by rw [HLE.out]; exact hjt)
                      have hmo := cntTo_more hs2 j
                      have hms := cntTo_most hs2 j
                      have i0' : (0 : Int) ≤ (j : Int) := by omega
                      have i1' : (j : Int) < (top : Int) := by omega
                      generalize hs2.getD j false = bj at hcj hmo
                      cases bj with
                      | true =>
                        have hwn : IntKind.i64.wrap (((nL + cntTo hs2 j : Nat) : Int) + 1) = ((nL + cntTo hs2 (j + 1) : Nat) : Int) := by have := HNL.out; rw [IntKind.wrap_i64, hmo]; simp only [if_true]; omega
                        obtain ⟨z1, hz1⟩ : ∃ z : Nat, nL + cntTo hs2 j = z := ⟨_, rfl⟩
                        rw [hz1] at hwn ⊢
                        have hwn2 : IntKind.i64.wrap ((z1 : Int) + 1) = ((z1 + 1 : Nat) : Int) := by have := HNL.out; rw [IntKind.wrap_i64]; omega
                        clear hwn
                        have HMO := Lib.hid hmo
                        have HZ1 := Lib.hid hz1
                        clear hmo hz1 hms
                        go_wp2
                        go_roundw
                        case rel => exact ⟨j + 1, by omega, by go_num, by have h7 := HMO.out; have h8 := HZ1.out; rw [if_pos rfl] at h7; rw [h7, ← h8]; go_num, SJ.out⟩
                        case measure => simp [intOf]; omega
                      | false =>
                        obtain ⟨z1, hz1⟩ : ∃ z : Nat, nL + cntTo hs2 j = z := ⟨_, rfl⟩
                        rw [hz1]
                        have HMO := Lib.hid hmo
                        have HZ1 := Lib.hid hz1
                        clear hmo hz1 hms
                        go_wp2
                        go_roundw
                        case rel => exact ⟨j + 1, by omega, by go_num, by have h7 := HMO.out; have h8 := HZ1.out; rw [if_neg (by simp)] at h7; rw [h7, Nat.add_zero, h8], SJ.out⟩
                        case measure => simp [intOf]; omega
                    · obtain rfl : j = top := by omega
                      rw [HCN.out] at hvj
                      subst hvj
                      have i1' : ¬ (j : Int) < (j : Int) := by omega
                      have hSd : (fun w' : World => KpS W w' w1.heap.size (w1.heap.size + 1) hs2 h2 A2 n2 c2 B2 m2 d2 p2) wr.drew := SJ.out.drew
                      go_wp2
                      first | (rename_i K hK; refine wp_held (fun w' : World => KpS W w' w1.heap.size (w1.heap.size + 1) hs2 h2 A2 n2 c2 B2 m2 d2 p2) K hmx ?_ (fun _ _ h => h)) | (rename_i K hK hz; refine wp_held (fun w' : World => KpS W w' w1.heap.size (w1.heap.size + 1) hs2 h2 A2 n2 c2 B2 m2 d2 p2) K hmx ?_ (fun _ _ h => h))
                      refine wpAnyH_take (i := 0) (v := .agg #[.int .i64 h2, .slice A2 n2 c2, .slice B2 m2 d2]) (lit rfl) (by kernel_rfl) (by kernel_rfl) (by kernel_rfl) (fun _ _ _ h => h) (Or.inl ⟨by rfl, ?_⟩) hSd ?_
                      · rintro w6 sk
                        have a0 := sk.box.cell 0
                        have a1 := sk.box.cell 1
                        have a2 := sk.box.cell 2
                        go_simp
                      simp only [Act.put, List.setIfInBounds_toArray, List.set_cons_zero, List.set_cons_succ]
                      refine wpAnyH_take (i := 1) (v := .int .i64 (j : Int)) (lit rfl) (by kernel_rfl) (by kernel_rfl) (by kernel_rfl) (fun _ _ _ h => h) (Or.inl ⟨by rfl, ?_⟩) hSd ?_
                      · rintro w6 sk
                        go_simp
                      simp only [Act.put, List.setIfInBounds_toArray, List.set_cons_zero, List.set_cons_succ]
                      refine wpAnyH_ready (rs := [2]) (by kernel_rfl) (by simp) ?_
                      refine AllReadyH.cons (lit rfl) (fun K5 hK5 => ?_) AllReadyH.nil
                      refine step_open rfl ?_
                      go_simp
                      go_at_call 10
                      (with_reducible refine (HCK.out _ hSd).mono ?_)
                      rintro e20 w20 ⟨rfl, h20⟩
                      refine hK5.out _ _ h20 (fun _ => ?_)
                      clear hK5 K5
                      refine wpAnyH_take (i := 3) (v := .bool false) (lit rfl) (by kernel_rfl) (by kernel_rfl) (by kernel_rfl) (fun _ _ _ h => h) (Or.inl ⟨by rfl, ?_⟩) h20 ?_
                      · rintro w6 sk
                        go_simp
                      simp only [Act.put, List.setIfInBounds_toArray, List.set_cons_zero, List.set_cons_succ]
                      refine wpAnyH_take (i := 4) (v := .bool false) (lit rfl) (by kernel_rfl) (by kernel_rfl) (by kernel_rfl) (fun _ _ _ h => h) (Or.inl ⟨by rfl, ?_⟩) h20 ?_
                      · rintro w6 sk
                        go_simp
                      simp only [Act.put, List.setIfInBounds_toArray, List.set_cons_zero, List.set_cons_succ]
                      refine wpAnyH_take (i := 5) (v := .int .i64 (h2 - 2)) (lit rfl) (by kernel_rfl) (by kernel_rfl) (by kernel_rfl) (fun _ _ _ h => h) (Or.inl ⟨by rfl, ?_⟩) h20 ?_
                      · rintro w6 sk
                        go_simp
                      simp only [Act.put, List.setIfInBounds_toArray, List.set_cons_zero, List.set_cons_succ]
                      refine wpAnyH_take (i := 6) (v := .pointer (some ⟨w1.heap.size, 0, none⟩)) (lit rfl) (by kernel_rfl) (by kernel_rfl) (by kernel_rfl) (fun _ _ _ h => h) (Or.inl ⟨by rfl, ?_⟩) h20 ?_
                      · rintro w6 sk
                        go_simp
                      simp only [Act.put, List.setIfInBounds_toArray, List.set_cons_zero, List.set_cons_succ]
                      refine wpAnyH_take (i := 7) (v := .int .i64 h2) (lit rfl) (by kernel_rfl) (by kernel_rfl) (by kernel_rfl) (fun _ _ _ h => h) (Or.inl ⟨by rfl, ?_⟩) h20 ?_
                      · rintro w6 sk
                        have a0 := sk.box.cell 0
                        have a1 := sk.box.cell 1
                        have a2 := sk.box.cell 2
                        go_simp
                      simp only [Act.put, List.setIfInBounds_toArray, List.set_cons_zero, List.set_cons_succ]
                      refine wpAnyH_take (i := 8) (v := .int .i64 (h2 - 2)) (lit rfl) (by kernel_rfl) (by kernel_rfl) (by kernel_rfl) (fun _ _ _ h => h) (Or.inl ⟨by rfl, ?_⟩) h20 ?_
                      · rintro w6 sk
                        go_simp
                      simp only [Act.put, List.setIfInBounds_toArray, List.set_cons_zero, List.set_cons_succ]
                      refine wpAnyH_take (i := 9) (v := .bool false) (lit rfl) (by kernel_rfl) (by kernel_rfl) (by kernel_rfl) (fun _ _ _ h => h) (Or.inl ⟨by rfl, ?_⟩) h20 ?_
                      · rintro w6 sk
                        go_simp
                      simp only [Act.put, List.setIfInBounds_toArray, List.set_cons_zero, List.set_cons_succ]
                      refine wpAnyH_take (i := 10) (v := .bool false) (lit rfl) (by kernel_rfl) (by kernel_rfl) (by kernel_rfl) (fun _ _ _ h => h) (Or.inl ⟨by rfl, ?_⟩) h20 ?_
                      · rintro w6 sk
                        go_simp
                      simp only [Act.put, List.setIfInBounds_toArray, List.set_cons_zero, List.set_cons_succ]
                      refine wpAnyH_take (i := 11) (v := .bool false) (lit rfl) (by kernel_rfl) (by kernel_rfl) (by kernel_rfl) (fun _ _ _ h => h) (Or.inl ⟨by rfl, ?_⟩) h20 ?_
                      · rintro w6 sk
                        go_simp
                      simp only [Act.put, List.setIfInBounds_toArray, List.set_cons_zero, List.set_cons_succ]
                      refine wpAnyH_take (i := 12) (v := .pointer (some ⟨w1.heap.size, 1, none⟩)) (lit rfl) (by kernel_rfl) (by kernel_rfl) (by kernel_rfl) (fun _ _ _ h => h) (Or.inl ⟨by rfl, ?_⟩) h20 ?_
                      · rintro w6 sk
                        go_simp
                      simp only [Act.put, List.setIfInBounds_toArray, List.set_cons_zero, List.set_cons_succ]
                      refine wpAnyH_take (i := 13) (v := .slice A2 n2 c2) (lit rfl) (by kernel_rfl) (by kernel_rfl) (by kernel_rfl) (fun _ _ _ h => h) (Or.inl ⟨by rfl, ?_⟩) h20 ?_
                      · rintro w6 sk
                        have a0 := sk.box.cell 0
                        have a1 := sk.box.cell 1
                        have a2 := sk.box.cell 2
                        go_simp
                      simp only [Act.put, List.setIfInBounds_toArray, List.set_cons_zero, List.set_cons_succ]
                      refine wpAnyH_take (i := 14) (v := .int .i64 (n2 : Int)) (lit rfl) (by kernel_rfl) (by kernel_rfl) (by kernel_rfl) (fun _ _ _ h => h) (Or.inl ⟨by rfl, ?_⟩) h20 ?_
                      · rintro w6 sk
                        go_simp
                      simp only [Act.put, List.setIfInBounds_toArray, List.set_cons_zero, List.set_cons_succ]
                      refine wpAnyH_take (i := 15) (v := .agg #[.int .i64 h2, .slice A2 n2 c2, .slice B2 m2 d2]) (lit rfl) (by kernel_rfl) (by kernel_rfl) (by kernel_rfl) (fun _ _ _ h => h) (Or.inl ⟨by rfl, ?_⟩) h20 ?_
                      · rintro w6 sk
                        have a0 := sk.box.cell 0
                        have a1 := sk.box.cell 1
                        have a2 := sk.box.cell 2
                        go_simp
                      simp only [Act.put, List.setIfInBounds_toArray, List.set_cons_zero, List.set_cons_succ]
                      refine wpAnyH_take (i := 18) (v := .agg #[.int .i64 h2, .slice A2 n2 c2, .slice B2 m2 d2]) (lit rfl) (by kernel_rfl) (by kernel_rfl) (by kernel_rfl) (fun _ _ _ h => h) (Or.inl ⟨by rfl, ?_⟩) h20 ?_
                      · rintro w6 sk
                        have a0 := sk.box.cell 0
                        have a1 := sk.box.cell 1
                        have a2 := sk.box.cell 2
                        go_simp
                      simp only [Act.put, List.setIfInBounds_toArray, List.set_cons_zero, List.set_cons_succ]
                      refine wpAnyH_ready (rs := [16]) (by kernel_rfl) (by simp) ?_
                      refine AllReadyH.cons (lit rfl) (fun K5 hK5 => ?_) AllReadyH.nil
                      go_simp
                      go_at_call 14
                      (with_reducible refine (HWT.out _ h20).mono ?_)
                      rintro e21 w21 ⟨rfl, h21⟩
                      refine hK5.out _ _ h21 (fun _ => ?_)
                      clear hK5 K5
                      refine wpAnyH_take (i := 17) (v := .int .i64 (nL : Int)) (lit rfl) (by kernel_rfl) (by kernel_rfl) (by kernel_rfl) (fun _ _ _ h => h) (Or.inl ⟨by rfl, ?_⟩) h21 ?_
                      · rintro w6 sk
                        go_simp
                      simp only [Act.put, List.setIfInBounds_toArray, List.set_cons_zero, List.set_cons_succ]
                      refine wpAnyH_ready (rs := [19]) (by kernel_rfl) (by simp) ?_
                      refine AllReadyH.cons (lit rfl) (fun K5 hK5 => ?_) AllReadyH.nil
                      go_simp
                      go_at_call 17
                      (with_reducible refine (HLS.out _ h21).mono ?_)
                      rintro e22 w22 ⟨L22, c22, rfl, h22⟩
                      refine hK5.out _ _ h22 (fun _ => ?_)
                      clear hK5 K5
                      refine wpAnyH_take (i := 20) (v := .int .i64 (nL : Int)) (lit rfl) (by kernel_rfl) (by kernel_rfl) (by kernel_rfl) (fun _ _ _ h => h) (Or.inl ⟨by rfl, ?_⟩) h22 ?_
                      · rintro w6 sk
                        go_simp
                      simp only [Act.put, List.setIfInBounds_toArray, List.set_cons_zero, List.set_cons_succ]
                      refine wpAnyH_take (i := 21) (v := .bool false) (lit rfl) (by kernel_rfl) (by kernel_rfl) (by kernel_rfl) (fun _ _ _ h => h) (Or.inl ⟨by rfl, ?_⟩) h22 ?_
                      · rintro w6 sk
                        go_simp
                      simp only [Act.put, List.setIfInBounds_toArray, List.set_cons_zero, List.set_cons_succ]
                      refine wpAnyH_take (i := 22) (v := .bool false) (lit rfl) (by kernel_rfl) (by kernel_rfl) (by kernel_rfl) (fun _ _ _ h => h) (Or.inl ⟨by rfl, ?_⟩) h22 ?_
                      · rintro w6 sk
                        go_simp
                      simp only [Act.put, List.setIfInBounds_toArray, List.set_cons_zero, List.set_cons_succ]
                      refine wpAnyH_done (by kernel_rfl) ?_ _
                      refine hK _ _ ?_
                      go_wp2
                      go_roundw
                      case rel => exact ⟨k + 1, tt, _, _, _, _, _, _, _, _, _, by omega, by go_num, rfl, by omega, h22, TP.out⟩
                      case measure => simp [intOf]; omega
        · by_cases h1 : kd = 1
          · as_aux_lemma =>
            subst h1
            obtain ⟨i0, hi, hz0, hz1, hz2⟩ := info_parts int_info13
            have hw26 : IntKind.i64.wrap ((top : Int) - 1) = (top : Int) - 1 := by rw [IntKind.wrap_i64]; omega
            obtain ⟨wo, hwo⟩ : ∃ wo : World, wo = wr := ⟨_, rfl⟩
            subst hwo
            have e10 : ((1 : Int) == 0) = false := rfl
            go_wp2
            go_loopw [15, 16] (fun vv i wr => ∃ m : Nat, m + 2 ≤ top ∧ i = .int .i64 ((top - 1 - m : Nat) : Int) ∧ wo.grownBy wr (some (w1.heap.size + 1)) ∧ HasB wr (w1.heap.size + 1) (outL hs (backTo hs N top m)) ∧ wr.ownsRow wo.heap.size 3 1 vv (backTo hs N top m).length ((backTo hs N top m).map (Value.int .i64))) (fun _ i _ => (intOf i).toNat)
            case atStart => exact ⟨0, ht2, by rw [show ((top - 1 - 0 : Nat) : Int) = (top : Int) - 1 by omega], World.grownBy.refl _ _, by rw [show backTo hs N top 0 = [] from rfl, outL_nil]; exact HS.out.row, World.ownsRow_nil _ _ _ _⟩
            case round =>
              obtain ⟨mm, hmm, rfl, hg, hrw, ho⟩ := hrel
              obtain ⟨A7, c7, rfl, hRO⟩ := RowZ.own ho
              obtain ⟨jj, hjj⟩ : ∃ jj, top - 1 - mm = jj := ⟨_, rfl⟩
              have hjt : jj + mm + 1 = top := by omega
              have HBS : backTo hs N top (mm + 1) = backTo hs N top mm ++ if outB hs N jj = true then [(jj : Int)] else [] := by rw [← hjj]; rfl
              have hth := out_here (N := N) hmm HKP.out.len
              have hjl0 : jj < (outL hs (backTo hs N top mm)).length := by rw [outL_len, HKP.out.len]; omega
              have hcj := HasB.at hrw hjl0
              rw [hjj] at hth
              rw [hth] at hcj
              have hbl := backTo_len (hs := hs) (N := N) (top := top) (m := mm)
              have hst := outL_set hs (backTo hs N top mm) jj
              rw [hjj]
              generalize hbk : backTo hs N top mm = bk at *
              obtain ⟨nb, hnb⟩ : ∃ nb, bk.length = nb := ⟨_, rfl⟩
              rw [hnb] at ho hRO hbl ⊢
              have S5 := Lib.hid (HS.out.grow hg hrw)
              have GB := Lib.hid hg
              have RB := Lib.hid hrw
              have OB := Lib.hid ho
              have RO := Lib.hid hRO
              clear hg hrw ho hRO
              obtain ⟨hc0, hc1, hc2⟩ := HEL.out wr S5.out.bel
              have HBS := Lib.hid HBS
              have HST := Lib.hid hst
              have HJT := Lib.hid hjt
              have HBK := Lib.hid hbk
              have HNB := Lib.hid hnb
              have HJJ := Lib.hid hjj
              clear hst hjj hbk hnb hjt hth
              have hjl : jj < (outL hs bk).length := hjl0
              obtain ⟨bj, hbj⟩ : ∃ b, hs.getD jj false = b := ⟨_, rfl⟩
              rw [hbj] at hcj
              have hj0 : (0 : Int) ≤ (jj : Int) := by omega
              have hjT : (jj : Int) < (top : Int) := by have := HJT.out; omega
              have hwj : IntKind.i64.wrap ((jj : Int) - 1) = (jj : Int) - 1 := by have := HJT.out; rw [IntKind.wrap_i64]; omega
              by_cases hj2 : 2 ≤ jj
              · have hj2I : (2 : Int) ≤ (jj : Int) := by omega
                have HIE : Hid (((top - 1 - (mm + 1) : Nat) : Int) = (jj : Int) - 1) := Lib.hid (by have := HJT.out; omega)
                have HOU : Hid (outB hs N jj = (bj && (decide (0 < N) && decide ((jj : Int).tmod N = 0)))) := Lib.hid (by unfold outB; rw [hbj])
                have HNO : Hid (outB hs N jj = false → backTo hs N top (mm + 1) = bk) := Lib.hid (fun e => by rw [HBS.out, e]; simp)
                clear hbj
                cases bj with
                | false =>
                  go_wp2
                  go_roundw
                  case rel => exact ⟨mm + 1, by have := HJT.out; omega, by rw [HIE.out], GB.out, by rw [HNO.out (by rw [HOU.out]; simp )]; exact RB.out, by rw [HNO.out (by rw [HOU.out]; simp ), HNB.out]; exact OB.out⟩
                  case measure => simp [intOf]; omega
                | true =>
                  by_cases hN0 : 0 < N
                  · obtain ⟨rm, hrm⟩ : ∃ rm, (jj : Int).tmod N = rm := ⟨_, rfl⟩
                    have hNz : (N == 0) = false := by simp; omega
                    have hNz2 : N ≠ 0 := by omega
                    have hrb : 0 ≤ rm ∧ rm ≤ (jj : Int) := by rw [← hrm, Int.tmod_eq_emod_of_nonneg hj0]; exact ⟨Int.emod_nonneg _ hNz2, by have := Int.emod_add_mul_ediv (jj : Int) N; have := Int.mul_nonneg (show 0 ≤ N by omega) (Int.ediv_nonneg hj0 (show 0 ≤ N by omega)); omega⟩
                    have hrw : IntKind.i64.wrap rm = rm := by have := HJT.out; rw [IntKind.wrap_i64]; omega
                    by_cases hr0 : rm = 0
                    · subst hr0
                      have HYE : Hid (backTo hs N top (mm + 1) = bk ++ [(jj : Int)]) := Lib.hid (by rw [HBS.out, HOU.out, hrm]; simp [hN0])
                      clear hrb
                      go_wp2_with (at_builtin; (refine wpList_append_own _ rfl _ _ 22 rfl wo.heap.size 3 i0 (.int .i64 0) 1 8 Try.underlying22 hi hz0 hz1 hz2 rfl (by decide) _ nb _ rfl (OB.out.alloc _) ⟨wr.heap.size, 0, none⟩ 1 1 [.int .i64 (jj : Int)] rfl rfl (lies_one13 _ _ _) (by simp [Value.oneCell']) (by unfold maxLen; omega) (by omega) (Nat.le_trans GB.out.size (by simp)) ?_; intro v4 w4 h7 h8 hnil; clear hnil; have O4 := Lib.hid h7; have G4 := Lib.hid (grown_own13 (grown_alloc13 GB.out _) (OB.out.alloc _) (Nat.le_refl _) h8); have R4 : Hid (HasB w4 (w1.heap.size + 1) (outL hs bk)) := Lib.hid (Has.kept13 (Has.alloc RB.out _) (OB.out.alloc _) (by decide) h8); have g4 := HasB.at R4.out hjl; have f4 := Has.free R4.out jj; clear h7 h8))
                      go_roundw
                      case rel => exact ⟨mm + 1, by have := HJT.out; omega, by rw [HIE.out], only_store G4.out jj (.bool false), by rw [HYE.out, ← HST.out]; exact HasB.mark R4.out jj false, by rw [HYE.out, List.length_append, HNB.out, List.map_append]; exact own_cell13 O4.out R4.out (by decide) jj _⟩
                      case measure => simp [intOf]; omega
                    · have HOF : Hid (outB hs N jj = false) := Lib.hid (by rw [HOU.out, hrm]; simp [hr0])
                      have hr1 : (rm == 0) = false := by simpa using hr0
                      clear hrb
                      go_wp2
                      go_roundw
                      case rel => exact ⟨mm + 1, by have := HJT.out; omega, by rw [HIE.out], GB.out, by rw [HNO.out HOF.out]; exact RB.out, by rw [HNO.out HOF.out, HNB.out]; exact OB.out⟩
                      case measure => simp [intOf]; omega
                  · go_wp2
                    go_roundw
                    case rel => exact ⟨mm + 1, by have := HJT.out; omega, by rw [HIE.out], GB.out, by rw [HNO.out (by rw [HOU.out]; simp [hN0])]; exact RB.out, by rw [HNO.out (by rw [HOU.out]; simp [hN0]), HNB.out]; exact OB.out⟩
                    case measure => simp [intOf]; omega
              · have hjI1 : ¬ (2 : Int) ≤ (jj : Int) := by omega
                have hme : mm = top - 2 := by have := HJT.out; omega
                obtain ⟨t2, ht2'⟩ : ∃ t2, tt + 1 = t2 := ⟨_, rfl⟩
                have htI : (tt : Int) + 1 = (t2 : Int) := by omega
                have hwt : IntKind.u64.wrap ((tt : Int) + 1) = (t2 : Int) := by rw [IntKind.wrap_u64]; omega
                have hkp2 := HKP.out.back N ht2
                rw [← hme, HBK.out, ht2'] at hkp2
                have HGV := Lib.hid (fun w5 (s : KpS W w5 w1.heap.size (w1.heap.size + 1) (outL hs bk) h A1 n1 c1 B1 m1 d1 p) (r7 : RowZ w5 A7 nb c7 bk) => s.give HKP.out ht1 tt (Nat.le_refl _) (by omega) r7 (by omega))
                have htt2 : t2 ≤ k + 2 := by omega
                have TP0 := Lib.hid hkp2
                have y0 := S5.out.box.cell 0
                have y1 := S5.out.box.cell 1
                have y2 := S5.out.box.cell 2
                clear hkp2 ht2' hme htt hbj
                go_upto_region 34 with (go_at_call 20; (with_reducible refine (HGV.out _ S5.out RO.out).mono ?_); rintro e w20 ⟨A2, n2, c2, B2, m2, d2, rfl, h20, h21⟩; have g0 := h20.box.cell 0; have g1 := h20.box.cell 1; have g2 := h20.box.cell 2; have f0 := h20.box.free 0; have f1 := h20.box.free 1; have f2 := h20.box.free 2)
                obtain ⟨v4, hv4⟩ : ∃ x, st3 w20 w1.heap.size (.int .i64 h) (.slice A2 n2 c2) (.slice B2 m2 d2) = x := ⟨_, rfl⟩
                rw [hv4] at h21
                have T0 := Lib.hid h21
                obtain ⟨p2, hp2⟩ : ∃ x, giveP p tt bk = x := ⟨_, rfl⟩
                obtain ⟨hs2, hh2⟩ : ∃ x, outL hs bk = x := ⟨_, rfl⟩
                rw [hp2, hh2] at T0
                have TP := TP0
                rw [hp2, hh2] at TP
                unfold st3 at hv4
                rw [hv4]
                clear hv4 h20 h21 f0 f1 f2 g0 g1 g2 hp2 hh2 y0 y1 y2 hcj hjl hjl0
                obtain ⟨nL, hnL⟩ : ∃ nL, (listedP p2).length = nL := ⟨_, rfl⟩
                obtain ⟨nW, hnW⟩ : ∃ nW, (catZ p2.wait).length = nW := ⟨_, rfl⟩
                have HLS := Lib.hid (fun w5 (s : KpS W w5 w1.heap.size (w1.heap.size + 1) hs2 h A2 n2 c2 B2 m2 d2 p2) => s.list TP.out ht1)
                have HCK := Lib.hid (fun w5 (s : KpS W w5 w1.heap.size (w1.heap.size + 1) hs2 h A2 n2 c2 B2 m2 d2 p2) => s.check TP.out ht1)
                have HWT := Lib.hid (fun w5 (s : KpS W w5 w1.heap.size (w1.heap.size + 1) hs2 h A2 n2 c2 B2 m2 d2 p2) => s.waits TP.out ht1)
                rw [hnL] at HLS
                rw [hnW] at HWT
                have hcn := TP.out.count
                rw [hnL, T0.out.hi] at hcn
                have HCN : Hid (((nL + cntTo hs2 top : Nat) : Int) = h - 2) := Lib.hid hcn
                have hln : (listedP p2).length = p2.free.length + (catZ p2.wait).length := by unfold listedP; rw [srtZ_len, List.length_append]
                have hfr : n2 = p2.free.length := T0.out.pool.free.len
                rw [hnL, hnW, ← hfr] at hln
                have hsm := TP.out.small ht1
                unfold smallR at hsm
                rw [hnW, ← hfr, T0.out.hi] at hsm
                have hw17 : IntKind.i64.wrap ((n2 : Int) + (nW : Int)) = (nL : Int) := by rw [IntKind.wrap_i64]; omega
                have hw8 : IntKind.i64.wrap (h - 2) = h - 2 := by rw [IntKind.wrap_i64]; omega
                have hb1 : h ≤ 2097152 := by omega
                have hb0 : -4096 ≤ h := by omega
                have HNL : Hid (nL ≤ 10000) := Lib.hid (by omega)
                have HLE := Lib.hid TP.out.len
                clear hnL hnW hcn hln hfr hsm
                have y0 := T0.out.box.cell 0
                have y1 := T0.out.box.cell 1
                have y2 := T0.out.box.cell 2
                go_wp2_with (go_at_call 17; (with_reducible refine (HLS.out _ T0.out).mono ?_); rintro e w6 ⟨L6, c6, rfl, h6⟩; have T6 := Lib.hid h6; clear h6)
                obtain ⟨wo, hwo⟩ : ∃ wo : World, wo = wr := ⟨_, rfl⟩
                go_loopw [17, 18] (fun v i wr => ∃ j : Nat, j ≤ top ∧ i = .int .i64 (j : Int) ∧ v = .int .i64 ((nL + cntTo hs2 j : Nat) : Int) ∧ KpS W wr w1.heap.size (w1.heap.size + 1) hs2 h A2 n2 c2 B2 m2 d2 p2) (fun _ i _ => top - (intOf i).toNat)
                case atStart => exact ⟨0, Nat.zero_le _, rfl, rfl, T6.out⟩
                case round =>
                  obtain ⟨j, hj, rfl, hvj, hS⟩ := hrel
                  have SJ := Lib.hid hS
                  clear hS
                  by_cases hjt : j < top
                  · subst hvj
                    have hcj := SJ.out.at (show j < hs2.length by rw [HLE.out]; exact hjt)
                    have hmo := cntTo_more hs2 j
                    have hms := cntTo_most hs2 j
                    have i0' : (0 : Int) ≤ (j : Int) := by omega
                    have i1' : (j : Int) < (top : Int) := by omega
                    generalize hs2.getD j false = bj at hcj hmo
                    cases bj with
                    | true =>
                      have hwn : IntKind.i64.wrap (((nL + cntTo hs2 j : Nat) : Int) + 1) = ((nL + cntTo hs2 (j + 1) : Nat) : Int) := by have := HNL.out; rw [IntKind.wrap_i64, hmo]; simp only [if_true]; omega
                      obtain ⟨z1, hz1⟩ : ∃ z : Nat, nL + cntTo hs2 j = z := ⟨_, rfl⟩
                      rw [hz1] at hwn ⊢
                      have hwn2 : IntKind.i64.wrap ((z1 : Int) + 1) = ((z1 + 1 : Nat) : Int) := by have := HNL.out; rw [IntKind.wrap_i64]; omega
                      clear hwn
                      have HMO := Lib.hid hmo
                      have HZ1 := Lib.hid hz1
                      clear hmo hz1 hms
                      go_wp2
                      go_roundw
                      case rel => exact ⟨j + 1, by omega, by go_num, by have h7 := HMO.out; have h8 := HZ1.out; rw [if_pos rfl] at h7; rw [h7, ← h8]; go_num, SJ.out⟩
                      case measure => simp [intOf]; omega
                    | false =>
                      obtain ⟨z1, hz1⟩ : ∃ z : Nat, nL + cntTo hs2 j = z := ⟨_, rfl⟩
                      rw [hz1]
                      have HMO := Lib.hid hmo
                      have HZ1 := Lib.hid hz1
                      clear hmo hz1 hms
                      go_wp2
                      go_roundw
                      case rel => exact ⟨j + 1, by omega, by go_num, by have h7 := HMO.out; have h8 := HZ1.out; rw [if_neg (by simp)] at h7; rw [h7, Nat.add_zero, h8], SJ.out⟩
                      case measure => simp [intOf]; omega
                  · obtain rfl : j = top := by omega
                    rw [HCN.out] at hvj
                    subst hvj
                    have i1' : ¬ (j : Int) < (j : Int) := by omega
                    have hSd : (fun w' : World => KpS W w' w1.heap.size (w1.heap.size + 1) hs2 h A2 n2 c2 B2 m2 d2 p2) wr.drew := SJ.out.drew
                    go_wp2
                    first | (rename_i K hK; refine wp_held (fun w' : World => KpS W w' w1.heap.size (w1.heap.size + 1) hs2 h A2 n2 c2 B2 m2 d2 p2) K hmx ?_ (fun _ _ h => h)) | (rename_i K hK hz; refine wp_held (fun w' : World => KpS W w' w1.heap.size (w1.heap.size + 1) hs2 h A2 n2 c2 B2 m2 d2 p2) K hmx ?_ (fun _ _ h => h))
                    refine wpAnyH_take (i := 0) (v := .agg #[.int .i64 h, .slice A2 n2 c2, .slice B2 m2 d2]) (lit rfl) (by kernel_rfl) (by kernel_rfl) (by kernel_rfl) (fun _ _ _ h => h) (Or.inl ⟨by rfl, ?_⟩) hSd ?_
                    · rintro w6 sk
                      have a0 := sk.box.cell 0
                      have a1 := sk.box.cell 1
                      have a2 := sk.box.cell 2
                      go_simp
                    simp only [Act.put, List.setIfInBounds_toArray, List.set_cons_zero, List.set_cons_succ]
                    refine wpAnyH_take (i := 1) (v := .int .i64 (j : Int)) (lit rfl) (by kernel_rfl) (by kernel_rfl) (by kernel_rfl) (fun _ _ _ h => h) (Or.inl ⟨by rfl, ?_⟩) hSd ?_
                    · rintro w6 sk
                      go_simp
                    simp only [Act.put, List.setIfInBounds_toArray, List.set_cons_zero, List.set_cons_succ]
                    refine wpAnyH_ready (rs := [2]) (by kernel_rfl) (by simp) ?_
                    refine AllReadyH.cons (lit rfl) (fun K5 hK5 => ?_) AllReadyH.nil
                    refine step_open rfl ?_
                    go_simp
                    go_at_call 10
                    (with_reducible refine (HCK.out _ hSd).mono ?_)
                    rintro e20 w20 ⟨rfl, h20⟩
                    refine hK5.out _ _ h20 (fun _ => ?_)
                    clear hK5 K5
                    refine wpAnyH_take (i := 3) (v := .bool false) (lit rfl) (by kernel_rfl) (by kernel_rfl) (by kernel_rfl) (fun _ _ _ h => h) (Or.inl ⟨by rfl, ?_⟩) h20 ?_
                    · rintro w6 sk
                      go_simp
                    simp only [Act.put, List.setIfInBounds_toArray, List.set_cons_zero, List.set_cons_succ]
                    refine wpAnyH_take (i := 4) (v := .bool false) (lit rfl) (by kernel_rfl) (by kernel_rfl) (by kernel_rfl) (fun _ _ _ h => h) (Or.inl ⟨by rfl, ?_⟩) h20 ?_
                    · rintro w6 sk
                      go_simp
                    simp only [Act.put, List.setIfInBounds_toArray, List.set_cons_zero, List.set_cons_succ]
                    refine wpAnyH_take (i := 5) (v := .int .i64 (h - 2)) (lit rfl) (by kernel_rfl) (by kernel_rfl) (by kernel_rfl) (fun _ _ _ h => h) (Or.inl ⟨by rfl, ?_⟩) h20 ?_
                    · rintro w6 sk
                      go_simp
                    simp only [Act.put, List.setIfInBounds_toArray, List.set_cons_zero, List.set_cons_succ]
                    refine wpAnyH_take (i := 6) (v := .pointer (some ⟨w1.heap.size, 0, none⟩)) (lit rfl) (by kernel_rfl) (by kernel_rfl) (by kernel_rfl) (fun _ _ _ h => h) (Or.inl ⟨by rfl, ?_⟩) h20 ?_
                    · rintro w6 sk
                      go_simp
                    simp only [Act.put, List.setIfInBounds_toArray, List.set_cons_zero, List.set_cons_succ]
                    refine wpAnyH_take (i := 7) (v := .int .i64 h) (lit rfl) (by kernel_rfl) (by kernel_rfl) (by kernel_rfl) (fun _ _ _ h => h) (Or.inl ⟨by rfl, ?_⟩) h20 ?_
                    · rintro w6 sk
                      have a0 := sk.box.cell 0
                      have a1 := sk.box.cell 1
                      have a2 := sk.box.cell 2
                      go_simp
                    simp only [Act.put, List.setIfInBounds_toArray, List.set_cons_zero, List.set_cons_succ]
                    refine wpAnyH_take (i := 8) (v := .int .i64 (h - 2)) (lit rfl) (by kernel_rfl) (by kernel_rfl) (by kernel_rfl) (fun _ _ _ h => h) (Or.inl ⟨by rfl, ?_⟩) h20 ?_
                    · rintro w6 sk
                      go_simp
                    simp only [Act.put, List.setIfInBounds_toArray, List.set_cons_zero, List.set_cons_succ]
                    refine wpAnyH_take (i := 9) (v := .bool false) (lit rfl) (by kernel_rfl) (by kernel_rfl) (by kernel_rfl) (fun _ _ _ h => h) (Or.inl ⟨by rfl, ?_⟩) h20 ?_
                    · rintro w6 sk
                      go_simp
                    simp only [Act.put, List.setIfInBounds_toArray, List.set_cons_zero, List.set_cons_succ]
                    refine wpAnyH_take (i := 10) (v := .bool false) (lit rfl) (by kernel_rfl) (by kernel_rfl) (by kernel_rfl) (fun _ _ _ h => h) (Or.inl ⟨by rfl, ?_⟩) h20 ?_
                    · rintro w6 sk
                      go_simp
                    simp only [Act.put, List.setIfInBounds_toArray, List.set_cons_zero, List.set_cons_succ]
                    refine wpAnyH_take (i := 11) (v := .bool false) (lit rfl) (by kernel_rfl) (by kernel_rfl) (by kernel_rfl) (fun _ _ _ h => h) (Or.inl ⟨by rfl, ?_⟩) h20 ?_
                    · rintro w6 sk
                      go_simp
                    simp only [Act.put, List.setIfInBounds_toArray, List.set_cons_zero, List.set_cons_succ]
                    refine wpAnyH_take (i := 12) (v := .pointer (some ⟨w1.heap.size, 1, none⟩)) (lit rfl) (by kernel_rfl) (by kernel_rfl) (by kernel_rfl) (fun _ _ _ h => h) (Or.inl ⟨by rfl, ?_⟩) h20 ?_
                    · rintro w6 sk
                      go_simp
                    simp only [Act.put, List.setIfInBounds_toArray, List.set_cons_zero, List.set_cons_succ]
                    refine wpAnyH_take (i := 13) (v := .slice A2 n2 c2) (lit rfl) (by kernel_rfl) (by kernel_rfl) (by kernel_rfl) (fun _ _ _ h => h) (Or.inl ⟨by rfl, ?_⟩) h20 ?_
                    · rintro w6 sk
                      have a0 := sk.box.cell 0
                      have a1 := sk.box.cell 1
                      have a2 := sk.box.cell 2
                      go_simp
                    simp only [Act.put, List.setIfInBounds_toArray, List.set_cons_zero, List.set_cons_succ]
                    refine wpAnyH_take (i := 14) (v := .int .i64 (n2 : Int)) (lit rfl) (by kernel_rfl) (by kernel_rfl) (by kernel_rfl) (fun _ _ _ h => h) (Or.inl ⟨by rfl, ?_⟩) h20 ?_
                    · rintro w6 sk
                      go_simp
                    simp only [Act.put, List.setIfInBounds_toArray, List.set_cons_zero, List.set_cons_succ]
                    refine wpAnyH_take (i := 15) (v := .agg #[.int .i64 h, .slice A2 n2 c2, .slice B2 m2 d2]) (lit rfl) (by kernel_rfl) (by kernel_rfl) (by kernel_rfl) (fun _ _ _ h => h) (Or.inl ⟨by rfl, ?_⟩) h20 ?_
                    · rintro w6 sk
                      have a0 := sk.box.cell 0
                      have a1 := sk.box.cell 1
                      have a2 := sk.box.cell 2
                      go_simp
                    simp only [Act.put, List.setIfInBounds_toArray, List.set_cons_zero, List.set_cons_succ]
                    refine wpAnyH_take (i := 18) (v := .agg #[.int .i64 h, .slice A2 n2 c2, .slice B2 m2 d2]) (lit rfl) (by kernel_rfl) (by kernel_rfl) (by kernel_rfl) (fun _ _ _ h => h) (Or.inl ⟨by rfl, ?_⟩) h20 ?_
                    · rintro w6 sk
                      have a0 := sk.box.cell 0
                      have a1 := sk.box.cell 1
                      have a2 := sk.box.cell 2
                      go_simp
                    simp only [Act.put, List.setIfInBounds_toArray, List.set_cons_zero, List.set_cons_succ]
                    refine wpAnyH_ready (rs := [16]) (by kernel_rfl) (by simp) ?_
                    refine AllReadyH.cons (lit rfl) (fun K5 hK5 => ?_) AllReadyH.nil
                    go_simp
                    go_at_call 14
                    (with_reducible refine (HWT.out _ h20).mono ?_)
                    rintro e21 w21 ⟨rfl, h21⟩
                    refine hK5.out _ _ h21 (fun _ => ?_)
                    clear hK5 K5
                    refine wpAnyH_take (i := 17) (v := .int .i64 (nL : Int)) (lit rfl) (by kernel_rfl) (by kernel_rfl) (by kernel_rfl) (fun _ _ _ h => h) (Or.inl ⟨by rfl, ?_⟩) h21 ?_
                    · rintro w6 sk
                      go_simp
                    simp only [Act.put, List.setIfInBounds_toArray, List.set_cons_zero, List.set_cons_succ]
                    refine wpAnyH_ready (rs := [19]) (by kernel_rfl) (by simp) ?_
                    refine AllReadyH.cons (lit rfl) (fun K5 hK5 => ?_) AllReadyH.nil
                    go_simp
                    go_at_call 17
                    (with_reducible refine (HLS.out _ h21).mono ?_)
                    rintro e22 w22 ⟨L22, c22, rfl, h22⟩
                    refine hK5.out _ _ h22 (fun _ => ?_)
                    clear hK5 K5
                    refine wpAnyH_take (i := 20) (v := .int .i64 (nL : Int)) (lit rfl) (by kernel_rfl) (by kernel_rfl) (by kernel_rfl) (fun _ _ _ h => h) (Or.inl ⟨by rfl, ?_⟩) h22 ?_
                    · rintro w6 sk
                      go_simp
                    simp only [Act.put, List.setIfInBounds_toArray, List.set_cons_zero, List.set_cons_succ]
                    refine wpAnyH_take (i := 21) (v := .bool false) (lit rfl) (by kernel_rfl) (by kernel_rfl) (by kernel_rfl) (fun _ _ _ h => h) (Or.inl ⟨by rfl, ?_⟩) h22 ?_
                    · rintro w6 sk
                      go_simp
                    simp only [Act.put, List.setIfInBounds_toArray, List.set_cons_zero, List.set_cons_succ]
                    refine wpAnyH_take (i := 22) (v := .bool false) (lit rfl) (by kernel_rfl) (by kernel_rfl) (by kernel_rfl) (fun _ _ _ h => h) (Or.inl ⟨by rfl, ?_⟩) h22 ?_
                    · rintro w6 sk
                      go_simp
                    simp only [Act.put, List.setIfInBounds_toArray, List.set_cons_zero, List.set_cons_succ]
                    refine wpAnyH_done (by kernel_rfl) ?_ _
                    refine hK _ _ ?_
                    go_wp2
                    go_roundw
                    case rel => exact ⟨k + 1, t2, _, _, _, _, _, _, _, _, _, by omega, by go_num, rfl, by omega, h22, TP.out⟩
                    case measure => simp [intOf]; omega
          · by_cases h2 : kd = 2
            · as_aux_lemma =>
              subst h2
              have HRL := Lib.hid (fun w5 (s : KpS W w5 w1.heap.size (w1.heap.size + 1) hs h A1 n1 c1 B1 m1 d1 p) => s.rel HKP.out ht1 v hv true)
              have hSd : (fun w' : World => KpS W w' w1.heap.size (w1.heap.size + 1) hs h A1 n1 c1 B1 m1 d1 p ∧ w'.cell? ⟨b, off + k * 3, none⟩ = some (.int .i64 2) ∧ w'.cell? ⟨b, off + k * 3 + 1, none⟩ = some (.int .i64 N) ∧ w'.cell? ⟨b, off + k * 3 + 2, none⟩ = some (.int .u64 (v : Int))) wr.drew := ⟨HS.out.drew, HEL.out _ HS.out.drew.bel⟩
              go_wp2
              rename_i K hK
              refine wp_heldQ (fun w' : World => KpS W w' w1.heap.size (w1.heap.size + 1) hs h A1 n1 c1 B1 m1 d1 p ∧ w'.cell? ⟨b, off + k * 3, none⟩ = some (.int .i64 2) ∧ w'.cell? ⟨b, off + k * 3 + 1, none⟩ = some (.int .i64 N) ∧ w'.cell? ⟨b, off + k * 3 + 2, none⟩ = some (.int .u64 (v : Int))) 13 hmx ?_
              refine wpAnyK_take (i := 0) (v := .agg #[.int .i64 h, .slice A1 n1 c1, .slice B1 m1 d1]) rfl (by kernel_rfl) (by kernel_rfl) (by kernel_rfl) (by kernel_rfl) (by decide) (by kernel_rfl) (fun _ _ _ h => h) (Or.inl ⟨by rfl, ?_⟩) hSd ?_
              · rintro w6 ⟨sk, e0, e1, e2⟩
                have a0 := sk.box.cell 0
                have a1 := sk.box.cell 1
                have a2 := sk.box.cell 2
                go_simp
              simp only [Act.put, List.setIfInBounds_toArray, List.set_cons_zero, List.set_cons_succ, List.getElem_toArray, List.getElem_cons_zero]
              refine wpAnyK_pure (i := 1) (v := .slice (some ⟨b, off, none⟩) n c) rfl (by kernel_rfl) (by kernel_rfl) (by kernel_rfl) (by decide) (fun _ _ _ h => h) (Or.inl ⟨by rfl, ?_⟩) (.inr hSd) ?_
              · intro w6 _
                go_simp
              simp only [Act.put, List.setIfInBounds_toArray, List.set_cons_zero, List.set_cons_succ, List.getElem_toArray, List.getElem_cons_zero, List.getElem_cons_succ]
              refine wpAnyK_pure (i := 2) (v := .int .i64 (k : Int)) rfl (by kernel_rfl) (by kernel_rfl) (by kernel_rfl) (by decide) (fun _ _ _ h => h) (Or.inl ⟨by rfl, ?_⟩) (.inr hSd) ?_
              · intro w6 _
                go_simp
              simp only [Act.put, List.setIfInBounds_toArray, List.set_cons_zero, List.set_cons_succ, List.getElem_toArray, List.getElem_cons_zero, List.getElem_cons_succ]
              refine wpAnyK_pure (i := 3) (v := .pointer (some ⟨b, off + k * 3, none⟩)) rfl (by kernel_rfl) (by kernel_rfl) (by kernel_rfl) (by decide) (fun _ _ _ h => h) (Or.inl ⟨by rfl, ?_⟩) (.inr hSd) ?_
              · intro w6 _
                go_simp
              simp only [Act.put, List.setIfInBounds_toArray, List.set_cons_zero, List.set_cons_succ, List.getElem_toArray, List.getElem_cons_zero, List.getElem_cons_succ]
              refine wpAnyK_pure (i := 4) (v := .pointer (some ⟨b, off + k * 3 + 2, none⟩)) rfl (by kernel_rfl) (by kernel_rfl) (by kernel_rfl) (by decide) (fun _ _ _ h => h) (Or.inl ⟨by rfl, ?_⟩) (.inr hSd) ?_
              · intro w6 _
                go_simp
              simp only [Act.put, List.setIfInBounds_toArray, List.set_cons_zero, List.set_cons_succ, List.getElem_toArray, List.getElem_cons_zero, List.getElem_cons_succ]
              refine wpAnyK_take (i := 5) (v := .int .u64 (v : Int)) rfl (by kernel_rfl) (by kernel_rfl) (by kernel_rfl) (by kernel_rfl) (by decide) (by kernel_rfl) (fun _ _ _ h => h) (Or.inl ⟨by rfl, ?_⟩) hSd ?_
              · rintro w6 ⟨sk, e0, e1, e2⟩
                have a0 := sk.box.cell 0
                have a1 := sk.box.cell 1
                have a2 := sk.box.cell 2
                go_simp
              simp only [Act.put, List.setIfInBounds_toArray, List.set_cons_zero, List.set_cons_succ, List.getElem_toArray, List.getElem_cons_zero, List.getElem_cons_succ]
              refine wpAnyK_pure (i := 6) (v := .slice (some ⟨b, off, none⟩) n c) rfl (by kernel_rfl) (by kernel_rfl) (by kernel_rfl) (by decide) (fun _ _ _ h => h) (Or.inl ⟨by rfl, ?_⟩) (.inr hSd) ?_
              · intro w6 _
                go_simp
              simp only [Act.put, List.setIfInBounds_toArray, List.set_cons_zero, List.set_cons_succ, List.getElem_toArray, List.getElem_cons_zero, List.getElem_cons_succ]
              refine wpAnyK_pure (i := 7) (v := .int .i64 (k : Int)) rfl (by kernel_rfl) (by kernel_rfl) (by kernel_rfl) (by decide) (fun _ _ _ h => h) (Or.inl ⟨by rfl, ?_⟩) (.inr hSd) ?_
              · intro w6 _
                go_simp
              simp only [Act.put, List.setIfInBounds_toArray, List.set_cons_zero, List.set_cons_succ, List.getElem_toArray, List.getElem_cons_zero, List.getElem_cons_succ]
              refine wpAnyK_pure (i := 8) (v := .pointer (some ⟨b, off + k * 3, none⟩)) rfl (by kernel_rfl) (by kernel_rfl) (by kernel_rfl) (by decide) (fun _ _ _ h => h) (Or.inl ⟨by rfl, ?_⟩) (.inr hSd) ?_
              · intro w6 _
                go_simp
              simp only [Act.put, List.setIfInBounds_toArray, List.set_cons_zero, List.set_cons_succ, List.getElem_toArray, List.getElem_cons_zero, List.getElem_cons_succ]
              refine wpAnyK_pure (i := 9) (v := .pointer (some ⟨b, off + k * 3, none⟩)) rfl (by kernel_rfl) (by kernel_rfl) (by kernel_rfl) (by decide) (fun _ _ _ h => h) (Or.inl ⟨by rfl, ?_⟩) (.inr hSd) ?_
              · intro w6 _
                go_simp
              simp only [Act.put, List.setIfInBounds_toArray, List.set_cons_zero, List.set_cons_succ, List.getElem_toArray, List.getElem_cons_zero, List.getElem_cons_succ]
              refine wpAnyK_take (i := 10) (v := .int .i64 2) rfl (by kernel_rfl) (by kernel_rfl) (by kernel_rfl) (by kernel_rfl) (by decide) (by kernel_rfl) (fun _ _ _ h => h) (Or.inl ⟨by rfl, ?_⟩) hSd ?_
              · rintro w6 ⟨sk, e0, e1, e2⟩
                have a0 := sk.box.cell 0
                have a1 := sk.box.cell 1
                have a2 := sk.box.cell 2
                go_simp
              simp only [Act.put, List.setIfInBounds_toArray, List.set_cons_zero, List.set_cons_succ, List.getElem_toArray, List.getElem_cons_zero, List.getElem_cons_succ]
              refine wpAnyK_pure (i := 11) (v := .bool true) rfl (by kernel_rfl) (by kernel_rfl) (by kernel_rfl) (by decide) (fun _ _ _ h => h) (Or.inl ⟨by rfl, ?_⟩) (.inr hSd) ?_
              · intro w6 _
                go_simp
              simp only [Act.put, List.setIfInBounds_toArray, List.set_cons_zero, List.set_cons_succ, List.getElem_toArray, List.getElem_cons_zero, List.getElem_cons_succ]
              refine wpAnyK_one (i := 12) (by kernel_rfl) rfl (fun K5 hK5 => ?_)
              go_simp
              go_at_call 21
              (with_reducible refine (HRL.out _ hSd.1).mono ?_)
              rintro e20 w20 ⟨A2, n2, c2, B2, m2, d2, rfl, h20, h21⟩
              have h22 : (fun w' : World => KpS W w' w1.heap.size (w1.heap.size + 1) hs h A1 n1 c1 B1 m1 d1 p ∧ w'.cell? ⟨b, off + k * 3, none⟩ = some (.int .i64 2) ∧ w'.cell? ⟨b, off + k * 3 + 1, none⟩ = some (.int .i64 N) ∧ w'.cell? ⟨b, off + k * 3 + 2, none⟩ = some (.int .u64 (v : Int))) w20 := ⟨h20, HEL.out _ h20.bel⟩
              have g0 := h20.box.cell 0
              have g1 := h20.box.cell 1
              have g2 := h20.box.cell 2
              have f0 := h20.box.free 0
              have f1 := h20.box.free 1
              have f2 := h20.box.free 2
              refine hK5.out _ _ (.inr h22) ?_
              clear hK5 K5
              refine wpAnyK_one (i := 13) (by kernel_rfl) rfl (fun K5 hK5 => ?_)
              go_simp
              refine hK5.out _ _ (.inl (by kernel_rfl)) ?_
              clear hK5 K5
              refine wpAnyK_done (by kernel_rfl) ?_ _
              refine hK _ _ ?_
              obtain ⟨v4, hv4⟩ : ∃ x, st3 w20 w1.heap.size (.int .i64 h) (.slice A2 n2 c2) (.slice B2 m2 d2) = x := ⟨_, rfl⟩
              rw [hv4] at h21
              have T0 := Lib.hid h21
              obtain ⟨p2, hp2⟩ : ∃ x, relP p v true = x := ⟨_, rfl⟩
              rw [hp2] at T0
              have TP : Hid (KpP p2 top tt hs) := Lib.hid (hp2 ▸ HKP.out.rel v true)
              unfold st3 at hv4
              rw [hv4]
              have htt2 : tt ≤ k + 2 := by omega
              clear hv4 h20 h21 h22 f0 f1 f2 g0 g1 g2 hp2 hSd
              obtain ⟨nL, hnL⟩ : ∃ nL, (listedP p2).length = nL := ⟨_, rfl⟩
              obtain ⟨nW, hnW⟩ : ∃ nW, (catZ p2.wait).length = nW := ⟨_, rfl⟩
              have HLS := Lib.hid (fun w5 (s : KpS W w5 w1.heap.size (w1.heap.size + 1) hs h A2 n2 c2 B2 m2 d2 p2) => s.list TP.out ht1)
              have HCK := Lib.hid (fun w5 (s : KpS W w5 w1.heap.size (w1.heap.size + 1) hs h A2 n2 c2 B2 m2 d2 p2) => s.check TP.out ht1)
              have HWT := Lib.hid (fun w5 (s : KpS W w5 w1.heap.size (w1.heap.size + 1) hs h A2 n2 c2 B2 m2 d2 p2) => s.waits TP.out ht1)
              rw [hnL] at HLS
              rw [hnW] at HWT
              have hcn := TP.out.count
              rw [hnL, T0.out.hi] at hcn
              have HCN : Hid (((nL + cntTo hs top : Nat) : Int) = h - 2) := Lib.hid hcn
              have hln : (listedP p2).length = p2.free.length + (catZ p2.wait).length := by unfold listedP; rw [srtZ_len, List.length_append]
              have hfr : n2 = p2.free.length := T0.out.pool.free.len
              rw [hnL, hnW, ← hfr] at hln
              have hsm := TP.out.small ht1
              unfold smallR at hsm
              rw [hnW, ← hfr, T0.out.hi] at hsm
              have hw17 : IntKind.i64.wrap ((n2 : Int) + (nW : Int)) = (nL : Int) := by rw [IntKind.wrap_i64]; omega
              have hw8 : IntKind.i64.wrap (h - 2) = h - 2 := by rw [IntKind.wrap_i64]; omega
              have hb1 : h ≤ 2097152 := by omega
              have hb0 : -4096 ≤ h := by omega
              have HNL : Hid (nL ≤ 10000) := Lib.hid (by omega)
              have HLE := Lib.hid TP.out.len
              clear hnL hnW hcn hln hfr hsm
              have y0 := T0.out.box.cell 0
              have y1 := T0.out.box.cell 1
              have y2 := T0.out.box.cell 2
              go_wp2_with (go_at_call 17; (with_reducible refine (HLS.out _ T0.out).mono ?_); rintro e w6 ⟨L6, c6, rfl, h6⟩; have T6 := Lib.hid h6; clear h6)
              obtain ⟨wo, hwo⟩ : ∃ wo : World, wo = wr := ⟨_, rfl⟩
              go_loopw [17, 18] (fun v i wr => ∃ j : Nat, j ≤ top ∧ i = .int .i64 (j : Int) ∧ v = .int .i64 ((nL + cntTo hs j : Nat) : Int) ∧ KpS W wr w1.heap.size (w1.heap.size + 1) hs h A2 n2 c2 B2 m2 d2 p2) (fun _ i _ => top - (intOf i).toNat)
              case atStart => exact ⟨0, Nat.zero_le _, rfl, rfl, T6.out⟩
              case round =>
                obtain ⟨j, hj, rfl, hvj, hS⟩ := hrel
                have SJ := Lib.hid hS
                clear hS
                by_cases hjt : j < top
                · subst hvj
                  have hcj := SJ.out.at (show j < hs.length by rw [HLE.out]; exact hjt)
                  have hmo := cntTo_more hs j
                  have hms := cntTo_most hs j
                  have i0' : (0 : Int) ≤ (j : Int) := by omega
                  have i1' : (j : Int) < (top : Int) := by omega
                  generalize hs.getD j false = bj at hcj hmo
                  cases bj with
                  | true =>
                    have hwn : IntKind.i64.wrap (((nL + cntTo hs j : Nat) : Int) + 1) = ((nL + cntTo hs (j + 1) : Nat) : Int) := by have := HNL.out; rw [IntKind.wrap_i64, hmo]; simp only [if_true]; omega
                    obtain ⟨z1, hz1⟩ : ∃ z : Nat, nL + cntTo hs j = z := ⟨_, rfl⟩
                    rw [hz1] at hwn ⊢
                    have hwn2 : IntKind.i64.wrap ((z1 : Int) + 1) = ((z1 + 1 : Nat) : Int) := by have := HNL.out; rw [IntKind.wrap_i64]; omega
                    clear hwn
                    have HMO := Lib.hid hmo
                    have HZ1 := Lib.hid hz1
                    clear hmo hz1 hms
                    go_wp2
                    go_roundw
                    case rel => exact ⟨j + 1, by omega, by go_num, by have h7 := HMO.out; have h8 := HZ1.out; rw [if_pos rfl] at h7; rw [h7, ← h8]; go_num, SJ.out⟩
                    case measure => simp [intOf]; omega
                  | false =>
                    obtain ⟨z1, hz1⟩ : ∃ z : Nat, nL + cntTo hs j = z := ⟨_, rfl⟩
                    rw [hz1]
                    have HMO := Lib.hid hmo
                    have HZ1 := Lib.hid hz1
                    clear hmo hz1 hms
                    go_wp2
                    go_roundw
                    case rel => exact ⟨j + 1, by omega, by go_num, by have h7 := HMO.out; have h8 := HZ1.out; rw [if_neg (by simp)] at h7; rw [h7, Nat.add_zero, h8], SJ.out⟩
                    case measure => simp [intOf]; omega
                · obtain rfl : j = top := by omega
                  rw [HCN.out] at hvj
                  subst hvj
                  have i1' : ¬ (j : Int) < (j : Int) := by omega
                  have hSd : (fun w' : World => KpS W w' w1.heap.size (w1.heap.size + 1) hs h A2 n2 c2 B2 m2 d2 p2) wr.drew := SJ.out.drew
                  go_wp2
                  first | (rename_i K hK; refine wp_held (fun w' : World => KpS W w' w1.heap.size (w1.heap.size + 1) hs h A2 n2 c2 B2 m2 d2 p2) K hmx ?_ (fun _ _ h => h)) | (rename_i K hK hz; refine wp_held (fun w' : World => KpS W w' w1.heap.size (w1.heap.size + 1) hs h A2 n2 c2 B2 m2 d2 p2) K hmx ?_ (fun _ _ h => h))
                  refine wpAnyH_take (i := 0) (v := .agg #[.int .i64 h, .slice A2 n2 c2, .slice B2 m2 d2]) (lit rfl) (by kernel_rfl) (by kernel_rfl) (by kernel_rfl) (fun _ _ _ h => h) (Or.inl ⟨by rfl, ?_⟩) hSd ?_
                  · rintro w6 sk
                    have a0 := sk.box.cell 0
                    have a1 := sk.box.cell 1
                    have a2 := sk.box.cell 2
                    go_simp
                  simp only [Act.put, List.setIfInBounds_toArray, List.set_cons_zero, List.set_cons_succ]
                  refine wpAnyH_take (i := 1) (v := .int .i64 (j : Int)) (lit rfl) (by kernel_rfl) (by kernel_rfl) (by kernel_rfl) (fun _ _ _ h => h) (Or.inl ⟨by rfl, ?_⟩) hSd ?_
                  · rintro w6 sk
                    go_simp
                  simp only [Act.put, List.setIfInBounds_toArray, List.set_cons_zero, List.set_cons_succ]
                  refine wpAnyH_ready (rs := [2]) (by kernel_rfl) (by simp) ?_
                  refine AllReadyH.cons (lit rfl) (fun K5 hK5 => ?_) AllReadyH.nil
                  refine step_open rfl ?_
                  go_simp
                  go_at_call 10
                  (with_reducible refine (HCK.out _ hSd).mono ?_)
                  rintro e20 w20 ⟨rfl, h20⟩
                  refine hK5.out _ _ h20 (fun _ => ?_)
                  clear hK5 K5
                  refine wpAnyH_take (i := 3) (v := .bool false) (lit rfl) (by kernel_rfl) (by kernel_rfl) (by kernel_rfl) (fun _ _ _ h => h) (Or.inl ⟨by rfl, ?_⟩) h20 ?_
                  · rintro w6 sk
                    go_simp
                  simp only [Act.put, List.setIfInBounds_toArray, List.set_cons_zero, List.set_cons_succ]
                  refine wpAnyH_take (i := 4) (v := .bool false) (lit rfl) (by kernel_rfl) (by kernel_rfl) (by kernel_rfl) (fun _ _ _ h => h) (Or.inl ⟨by rfl, ?_⟩) h20 ?_
                  · rintro w6 sk
                    go_simp
                  simp only [Act.put, List.setIfInBounds_toArray, List.set_cons_zero, List.set_cons_succ]
                  refine wpAnyH_take (i := 5) (v := .int .i64 (h - 2)) (lit rfl) (by kernel_rfl) (by kernel_rfl) (by kernel_rfl) (fun _ _ _ h => h) (Or.inl ⟨by rfl, ?_⟩) h20 ?_
                  · rintro w6 sk
                    go_simp
                  simp only [Act.put, List.setIfInBounds_toArray, List.set_cons_zero, List.set_cons_succ]
                  refine wpAnyH_take (i := 6) (v := .pointer (some ⟨w1.heap.size, 0, none⟩)) (lit rfl) (by kernel_rfl) (by kernel_rfl) (by kernel_rfl) (fun _ _ _ h => h) (Or.inl ⟨by rfl, ?_⟩) h20 ?_
                  · rintro w6 sk
                    go_simp
                  simp only [Act.put, List.setIfInBounds_toArray, List.set_cons_zero, List.set_cons_succ]
                  refine wpAnyH_take (i := 7) (v := .int .i64 h) (lit rfl) (by kernel_rfl) (by kernel_rfl) (by kernel_rfl) (fun _ _ _ h => h) (Or.inl ⟨by rfl, ?_⟩) h20 ?_
                  · rintro w6 sk
                    have a0 := sk.box.cell 0
                    have a1 := sk.box.cell 1
                    have a2 := sk.box.cell 2
                    go_simp
                  simp only [Act.put, List.setIfInBounds_toArray, List.set_cons_zero, List.set_cons_succ]
                  refine wpAnyH_take (i := 8) (v := .int .i64 (h - 2)) (lit rfl) (by kernel_rfl) (by kernel_rfl) (by kernel_rfl) (fun _ _ _ h => h) (Or.inl ⟨by rfl, ?_⟩) h20 ?_
                  · rintro w6 sk
                    go_simp
                  simp only [Act.put, List.setIfInBounds_toArray, List.set_cons_zero, List.set_cons_succ]
                  refine wpAnyH_take (i := 9) (v := .bool false) (lit rfl) (by kernel_rfl) (by kernel_rfl) (by kernel_rfl) (fun _ _ _ h => h) (Or.inl ⟨by rfl, ?_⟩) h20 ?_
                  · rintro w6 sk
                    go_simp
                  simp only [Act.put, List.setIfInBounds_toArray, List.set_cons_zero, List.set_cons_succ]
                  refine wpAnyH_take (i := 10) (v := .bool false) (lit rfl) (by kernel_rfl) (by kernel_rfl) (by kernel_rfl) (fun _ _ _ h => h) (Or.inl ⟨by rfl, ?_⟩) h20 ?_
                  · rintro w6 sk
                    go_simp
                  simp only [Act.put, List.setIfInBounds_toArray, List.set_cons_zero, List.set_cons_succ]
                  refine wpAnyH_take (i := 11) (v := .bool false) (lit rfl) (by kernel_rfl) (by kernel_rfl) (by kernel_rfl) (fun _ _ _ h => h) (Or.inl ⟨by rfl, ?_⟩) h20 ?_
                  · rintro w6 sk
                    go_simp
                  simp only [Act.put, List.setIfInBounds_toArray, List.set_cons_zero, List.set_cons_succ]
                  refine wpAnyH_take (i := 12) (v := .pointer (some ⟨w1.heap.size, 1, none⟩)) (lit rfl) (by kernel_rfl) (by kernel_rfl) (by kernel_rfl) (fun _ _ _ h => h) (Or.inl ⟨by rfl, ?_⟩) h20 ?_
                  · rintro w6 sk
                    go_simp
                  simp only [Act.put, List.setIfInBounds_toArray, List.set_cons_zero, List.set_cons_succ]
                  refine wpAnyH_take (i := 13) (v := .slice A2 n2 c2) (lit rfl) (by kernel_rfl) (by kernel_rfl) (by kernel_rfl) (fun _ _ _ h => h) (Or.inl ⟨by rfl, ?_⟩) h20 ?_
                  · rintro w6 sk
                    have a0 := sk.box.cell 0
                    have a1 := sk.box.cell 1
                    have a2 := sk.box.cell 2
                    go_simp
                  simp only [Act.put, List.setIfInBounds_toArray, List.set_cons_zero, List.set_cons_succ]
                  refine wpAnyH_take (i := 14) (v := .int .i64 (n2 : Int)) (lit rfl) (by kernel_rfl) (by kernel_rfl) (by kernel_rfl) (fun _ _ _ h => h) (Or.inl ⟨by rfl, ?_⟩) h20 ?_
                  · rintro w6 sk
                    go_simp
                  simp only [Act.put, List.setIfInBounds_toArray, List.set_cons_zero, List.set_cons_succ]
                  refine wpAnyH_take (i := 15) (v := .agg #[.int .i64 h, .slice A2 n2 c2, .slice B2 m2 d2]) (lit rfl) (by kernel_rfl) (by kernel_rfl) (by kernel_rfl) (fun _ _ _ h => h) (Or.inl ⟨by rfl, ?_⟩) h20 ?_
                  · rintro w6 sk
                    have a0 := sk.box.cell 0
                    have a1 := sk.box.cell 1
                    have a2 := sk.box.cell 2
                    go_simp
                  simp only [Act.put, List.setIfInBounds_toArray, List.set_cons_zero, List.set_cons_succ]
                  refine wpAnyH_take (i := 18) (v := .agg #[.int .i64 h, .slice A2 n2 c2, .slice B2 m2 d2]) (lit rfl) (by kernel_rfl) (by kernel_rfl) (by kernel_rfl) (fun _ _ _ h => h) (Or.inl ⟨by rfl, ?_⟩) h20 ?_
                  · rintro w6 sk
                    have a0 := sk.box.cell 0
                    have a1 := sk.box.cell 1
                    have a2 := sk.box.cell 2
                    go_simp
                  simp only [Act.put, List.setIfInBounds_toArray, List.set_cons_zero, List.set_cons_succ]
                  refine wpAnyH_ready (rs := [16]) (by kernel_rfl) (by simp) ?_
                  refine AllReadyH.cons (lit rfl) (fun K5 hK5 => ?_) AllReadyH.nil
                  go_simp
                  go_at_call 14
                  (with_reducible refine (HWT.out _ h20).mono ?_)
                  rintro e21 w21 ⟨rfl, h21⟩
                  refine hK5.out _ _ h21 (fun _ => ?_)
                  clear hK5 K5
                  refine wpAnyH_take (i := 17) (v := .int .i64 (nL : Int)) (lit rfl) (by kernel_rfl) (by kernel_rfl) (by kernel_rfl) (fun _ _ _ h => h) (Or.inl ⟨by rfl, ?_⟩) h21 ?_
                  · rintro w6 sk
                    go_simp
                  simp only [Act.put, List.setIfInBounds_toArray, List.set_cons_zero, List.set_cons_succ]
                  refine wpAnyH_ready (rs := [19]) (by kernel_rfl) (by simp) ?_
                  refine AllReadyH.cons (lit rfl) (fun K5 hK5 => ?_) AllReadyH.nil
                  go_simp
                  go_at_call 17
                  (with_reducible refine (HLS.out _ h21).mono ?_)
                  rintro e22 w22 ⟨L22, c22, rfl, h22⟩
                  refine hK5.out _ _ h22 (fun _ => ?_)
                  clear hK5 K5
                  refine wpAnyH_take (i := 20) (v := .int .i64 (nL : Int)) (lit rfl) (by kernel_rfl) (by kernel_rfl) (by kernel_rfl) (fun _ _ _ h => h) (Or.inl ⟨by rfl, ?_⟩) h22 ?_
                  · rintro w6 sk
                    go_simp
                  simp only [Act.put, List.setIfInBounds_toArray, List.set_cons_zero, List.set_cons_succ]
                  refine wpAnyH_take (i := 21) (v := .bool false) (lit rfl) (by kernel_rfl) (by kernel_rfl) (by kernel_rfl) (fun _ _ _ h => h) (Or.inl ⟨by rfl, ?_⟩) h22 ?_
                  · rintro w6 sk
                    go_simp
                  simp only [Act.put, List.setIfInBounds_toArray, List.set_cons_zero, List.set_cons_succ]
                  refine wpAnyH_take (i := 22) (v := .bool false) (lit rfl) (by kernel_rfl) (by kernel_rfl) (by kernel_rfl) (fun _ _ _ h => h) (Or.inl ⟨by rfl, ?_⟩) h22 ?_
                  · rintro w6 sk
                    go_simp
                  simp only [Act.put, List.setIfInBounds_toArray, List.set_cons_zero, List.set_cons_succ]
                  refine wpAnyH_done (by kernel_rfl) ?_ _
                  refine hK _ _ ?_
                  go_wp2
                  go_roundw
                  case rel => exact ⟨k + 1, tt, _, _, _, _, _, _, _, _, _, by omega, by go_num, rfl, by omega, h22, TP.out⟩
                  case measure => simp [intOf]; omega
            · by_cases h3 : kd = 3
              · as_aux_lemma =>
                subst h3
                have HRL := Lib.hid (fun w5 (s : KpS W w5 w1.heap.size (w1.heap.size + 1) hs h A1 n1 c1 B1 m1 d1 p) => s.rel HKP.out ht1 v hv false)
                have hSd : (fun w' : World => KpS W w' w1.heap.size (w1.heap.size + 1) hs h A1 n1 c1 B1 m1 d1 p ∧ w'.cell? ⟨b, off + k * 3, none⟩ = some (.int .i64 3) ∧ w'.cell? ⟨b, off + k * 3 + 1, none⟩ = some (.int .i64 N) ∧ w'.cell? ⟨b, off + k * 3 + 2, none⟩ = some (.int .u64 (v : Int))) wr.drew := ⟨HS.out.drew, HEL.out _ HS.out.drew.bel⟩
                go_wp2
                rename_i K hK
                refine wp_heldQ (fun w' : World => KpS W w' w1.heap.size (w1.heap.size + 1) hs h A1 n1 c1 B1 m1 d1 p ∧ w'.cell? ⟨b, off + k * 3, none⟩ = some (.int .i64 3) ∧ w'.cell? ⟨b, off + k * 3 + 1, none⟩ = some (.int .i64 N) ∧ w'.cell? ⟨b, off + k * 3 + 2, none⟩ = some (.int .u64 (v : Int))) 13 hmx ?_
                refine wpAnyK_take (i := 0) (v := .agg #[.int .i64 h, .slice A1 n1 c1, .slice B1 m1 d1]) rfl (by kernel_rfl) (by kernel_rfl) (by kernel_rfl) (by kernel_rfl) (by decide) (by kernel_rfl) (fun _ _ _ h => h) (Or.inl ⟨by rfl, ?_⟩) hSd ?_
                · rintro w6 ⟨sk, e0, e1, e2⟩
                  have a0 := sk.box.cell 0
                  have a1 := sk.box.cell 1
                  have a2 := sk.box.cell 2
                  go_simp
                simp only [Act.put, List.setIfInBounds_toArray, List.set_cons_zero, List.set_cons_succ, List.getElem_toArray, List.getElem_cons_zero]
                refine wpAnyK_pure (i := 1) (v := .slice (some ⟨b, off, none⟩) n c) rfl (by kernel_rfl) (by kernel_rfl) (by kernel_rfl) (by decide) (fun _ _ _ h => h) (Or.inl ⟨by rfl, ?_⟩) (.inr hSd) ?_
                · intro w6 _
                  go_simp
                simp only [Act.put, List.setIfInBounds_toArray, List.set_cons_zero, List.set_cons_succ, List.getElem_toArray, List.getElem_cons_zero, List.getElem_cons_succ]
                refine wpAnyK_pure (i := 2) (v := .int .i64 (k : Int)) rfl (by kernel_rfl) (by kernel_rfl) (by kernel_rfl) (by decide) (fun _ _ _ h => h) (Or.inl ⟨by rfl, ?_⟩) (.inr hSd) ?_
                · intro w6 _
                  go_simp
                simp only [Act.put, List.setIfInBounds_toArray, List.set_cons_zero, List.set_cons_succ, List.getElem_toArray, List.getElem_cons_zero, List.getElem_cons_succ]
                refine wpAnyK_pure (i := 3) (v := .pointer (some ⟨b, off + k * 3, none⟩)) rfl (by kernel_rfl) (by kernel_rfl) (by kernel_rfl) (by decide) (fun _ _ _ h => h) (Or.inl ⟨by rfl, ?_⟩) (.inr hSd) ?_
                · intro w6 _
                  go_simp
                simp only [Act.put, List.setIfInBounds_toArray, List.set_cons_zero, List.set_cons_succ, List.getElem_toArray, List.getElem_cons_zero, List.getElem_cons_succ]
                refine wpAnyK_pure (i := 4) (v := .pointer (some ⟨b, off + k * 3 + 2, none⟩)) rfl (by kernel_rfl) (by kernel_rfl) (by kernel_rfl) (by decide) (fun _ _ _ h => h) (Or.inl ⟨by rfl, ?_⟩) (.inr hSd) ?_
                · intro w6 _
                  go_simp
                simp only [Act.put, List.setIfInBounds_toArray, List.set_cons_zero, List.set_cons_succ, List.getElem_toArray, List.getElem_cons_zero, List.getElem_cons_succ]
                refine wpAnyK_take (i := 5) (v := .int .u64 (v : Int)) rfl (by kernel_rfl) (by kernel_rfl) (by kernel_rfl) (by kernel_rfl) (by decide) (by kernel_rfl) (fun _ _ _ h => h) (Or.inl ⟨by rfl, ?_⟩) hSd ?_
                · rintro w6 ⟨sk, e0, e1, e2⟩
                  have a0 := sk.box.cell 0
                  have a1 := sk.box.cell 1
                  have a2 := sk.box.cell 2
                  go_simp
                simp only [Act.put, List.setIfInBounds_toArray, List.set_cons_zero, List.set_cons_succ, List.getElem_toArray, List.getElem_cons_zero, List.getElem_cons_succ]
                refine wpAnyK_pure (i := 6) (v := .slice (some ⟨b, off, none⟩) n c) rfl (by kernel_rfl) (by kernel_rfl) (by kernel_rfl) (by decide) (fun _ _ _ h => h) (Or.inl ⟨by rfl, ?_⟩) (.inr hSd) ?_
                · intro w6 _
                  go_simp
                simp only [Act.put, List.setIfInBounds_toArray, List.set_cons_zero, List.set_cons_succ, List.getElem_toArray, List.getElem_cons_zero, List.getElem_cons_succ]
                refine wpAnyK_pure (i := 7) (v := .int .i64 (k : Int)) rfl (by kernel_rfl) (by kernel_rfl) (by kernel_rfl) (by decide) (fun _ _ _ h => h) (Or.inl ⟨by rfl, ?_⟩) (.inr hSd) ?_
                · intro w6 _
                  go_simp
                simp only [Act.put, List.setIfInBounds_toArray, List.set_cons_zero, List.set_cons_succ, List.getElem_toArray, List.getElem_cons_zero, List.getElem_cons_succ]
                refine wpAnyK_pure (i := 8) (v := .pointer (some ⟨b, off + k * 3, none⟩)) rfl (by kernel_rfl) (by kernel_rfl) (by kernel_rfl) (by decide) (fun _ _ _ h => h) (Or.inl ⟨by rfl, ?_⟩) (.inr hSd) ?_
                · intro w6 _
                  go_simp
                simp only [Act.put, List.setIfInBounds_toArray, List.set_cons_zero, List.set_cons_succ, List.getElem_toArray, List.getElem_cons_zero, List.getElem_cons_succ]
                refine wpAnyK_pure (i := 9) (v := .pointer (some ⟨b, off + k * 3, none⟩)) rfl (by kernel_rfl) (by kernel_rfl) (by kernel_rfl) (by decide) (fun _ _ _ h => h) (Or.inl ⟨by rfl, ?_⟩) (.inr hSd) ?_
                · intro w6 _
                  go_simp
                simp only [Act.put, List.setIfInBounds_toArray, List.set_cons_zero, List.set_cons_succ, List.getElem_toArray, List.getElem_cons_zero, List.getElem_cons_succ]
                refine wpAnyK_take (i := 10) (v := .int .i64 3) rfl (by kernel_rfl) (by kernel_rfl) (by kernel_rfl) (by kernel_rfl) (by decide) (by kernel_rfl) (fun _ _ _ h => h) (Or.inl ⟨by rfl, ?_⟩) hSd ?_
                · rintro w6 ⟨sk, e0, e1, e2⟩
                  have a0 := sk.box.cell 0
                  have a1 := sk.box.cell 1
                  have a2 := sk.box.cell 2
                  go_simp
                simp only [Act.put, List.setIfInBounds_toArray, List.set_cons_zero, List.set_cons_succ, List.getElem_toArray, List.getElem_cons_zero, List.getElem_cons_succ]
                refine wpAnyK_pure (i := 11) (v := .bool false) rfl (by kernel_rfl) (by kernel_rfl) (by kernel_rfl) (by decide) (fun _ _ _ h => h) (Or.inl ⟨by rfl, ?_⟩) (.inr hSd) ?_
                · intro w6 _
                  go_simp
                simp only [Act.put, List.setIfInBounds_toArray, List.set_cons_zero, List.set_cons_succ, List.getElem_toArray, List.getElem_cons_zero, List.getElem_cons_succ]
                refine wpAnyK_one (i := 12) (by kernel_rfl) rfl (fun K5 hK5 => ?_)
                go_simp
                go_at_call 21
                (with_reducible refine (HRL.out _ hSd.1).mono ?_)
                rintro e20 w20 ⟨A2, n2, c2, B2, m2, d2, rfl, h20, h21⟩
                have h22 : (fun w' : World => KpS W w' w1.heap.size (w1.heap.size + 1) hs h A1 n1 c1 B1 m1 d1 p ∧ w'.cell? ⟨b, off + k * 3, none⟩ = some (.int .i64 3) ∧ w'.cell? ⟨b, off + k * 3 + 1, none⟩ = some (.int .i64 N) ∧ w'.cell? ⟨b, off + k * 3 + 2, none⟩ = some (.int .u64 (v : Int))) w20 := ⟨h20, HEL.out _ h20.bel⟩
                have g0 := h20.box.cell 0
                have g1 := h20.box.cell 1
                have g2 := h20.box.cell 2
                have f0 := h20.box.free 0
                have f1 := h20.box.free 1
                have f2 := h20.box.free 2
                refine hK5.out _ _ (.inr h22) ?_
                clear hK5 K5
                refine wpAnyK_one (i := 13) (by kernel_rfl) rfl (fun K5 hK5 => ?_)
                go_simp
                refine hK5.out _ _ (.inl (by kernel_rfl)) ?_
                clear hK5 K5
                refine wpAnyK_done (by kernel_rfl) ?_ _
                refine hK _ _ ?_
                obtain ⟨v4, hv4⟩ : ∃ x, st3 w20 w1.heap.size (.int .i64 h) (.slice A2 n2 c2) (.slice B2 m2 d2) = x := ⟨_, rfl⟩
                rw [hv4] at h21
                have T0 := Lib.hid h21
                obtain ⟨p2, hp2⟩ : ∃ x, relP p v false = x := ⟨_, rfl⟩
                rw [hp2] at T0
                have TP : Hid (KpP p2 top tt hs) := Lib.hid (hp2 ▸ HKP.out.rel v false)
                unfold st3 at hv4
                rw [hv4]
                have htt2 : tt ≤ k + 2 := by omega
                clear hv4 h20 h21 h22 f0 f1 f2 g0 g1 g2 hp2 hSd
                obtain ⟨nL, hnL⟩ : ∃ nL, (listedP p2).length = nL := ⟨_, rfl⟩
                obtain ⟨nW, hnW⟩ : ∃ nW, (catZ p2.wait).length = nW := ⟨_, rfl⟩
                have HLS := Lib.hid (fun w5 (s : KpS W w5 w1.heap.size (w1.heap.size + 1) hs h A2 n2 c2 B2 m2 d2 p2) => s.list TP.out ht1)
                have HCK := Lib.hid (fun w5 (s : KpS W w5 w1.heap.size (w1.heap.size + 1) hs h A2 n2 c2 B2 m2 d2 p2) => s.check TP.out ht1)
                have HWT := Lib.hid (fun w5 (s : KpS W w5 w1.heap.size (w1.heap.size + 1) hs h A2 n2 c2 B2 m2 d2 p2) => s.waits TP.out ht1)
                rw [hnL] at HLS
                rw [hnW] at HWT
                have hcn := TP.out.count
                rw [hnL, T0.out.hi] at hcn
                have HCN : Hid (((nL + cntTo hs top : Nat) : Int) = h - 2) := Lib.hid hcn
                have hln : (listedP p2).length = p2.free.length + (catZ p2.wait).length := by unfold listedP; rw [srtZ_len, List.length_append]
                have hfr : n2 = p2.free.length := T0.out.pool.free.len
                rw [hnL, hnW, ← hfr] at hln
                have hsm := TP.out.small ht1
                unfold smallR at hsm
                rw [hnW, ← hfr, T0.out.hi] at hsm
                have hw17 : IntKind.i64.wrap ((n2 : Int) + (nW : Int)) = (nL : Int) := by rw [IntKind.wrap_i64]; omega
                have hw8 : IntKind.i64.wrap (h - 2) = h - 2 := by rw [IntKind.wrap_i64]; omega
                have hb1 : h ≤ 2097152 := by omega
                have hb0 : -4096 ≤ h := by omega
                have HNL : Hid (nL ≤ 10000) := Lib.hid (by omega)
                have HLE := Lib.hid TP.out.len
                clear hnL hnW hcn hln hfr hsm
                have y0 := T0.out.box.cell 0
                have y1 := T0.out.box.cell 1
                have y2 := T0.out.box.cell 2
                go_wp2_with (go_at_call 17; (with_reducible refine (HLS.out _ T0.out).mono ?_); rintro e w6 ⟨L6, c6, rfl, h6⟩; have T6 := Lib.hid h6; clear h6)
                obtain ⟨wo, hwo⟩ : ∃ wo : World, wo = wr := ⟨_, rfl⟩
                go_loopw [17, 18] (fun v i wr => ∃ j : Nat, j ≤ top ∧ i = .int .i64 (j : Int) ∧ v = .int .i64 ((nL + cntTo hs j : Nat) : Int) ∧ KpS W wr w1.heap.size (w1.heap.size + 1) hs h A2 n2 c2 B2 m2 d2 p2) (fun _ i _ => top - (intOf i).toNat)
                case atStart => exact ⟨0, Nat.zero_le _, rfl, rfl, T6.out⟩
                case round =>
                  obtain ⟨j, hj, rfl, hvj, hS⟩ := hrel
                  have SJ := Lib.hid hS
                  clear hS
                  by_cases hjt : j < top
                  · subst hvj
                    have hcj := SJ.out.at (show j < hs.length by rw [HLE.out]; exact hjt)
                    have hmo := cntTo_more hs j
                    have hms := cntTo_most hs j
                    have i0' : (0 : Int) ≤ (j : Int) := by omega
                    have i1' : (j : Int) < (top : Int) := by omega
                    generalize hs.getD j false = bj at hcj hmo
                    cases bj with
                    | true =>
                      have hwn : IntKind.i64.wrap (((nL + cntTo hs j : Nat) : Int) + 1) = ((nL + cntTo hs (j + 1) : Nat) : Int) := by have := HNL.out; rw [IntKind.wrap_i64, hmo]; simp only [if_true]; omega
                      obtain ⟨z1, hz1⟩ : ∃ z : Nat, nL + cntTo hs j = z := ⟨_, rfl⟩
                      rw [hz1] at hwn ⊢
                      have hwn2 : IntKind.i64.wrap ((z1 : Int) + 1) = ((z1 + 1 : Nat) : Int) := by have := HNL.out; rw [IntKind.wrap_i64]; omega
                      clear hwn
                      have HMO := Lib.hid hmo
                      have HZ1 := Lib.hid hz1
                      clear hmo hz1 hms
                      go_wp2
                      go_roundw
                      case rel => exact ⟨j + 1, by omega, by go_num, by have h7 := HMO.out; have h8 := HZ1.out; rw [if_pos rfl] at h7; rw [h7, ← h8]; go_num, SJ.out⟩
                      case measure => simp [intOf]; omega
                    | false =>
                      obtain ⟨z1, hz1⟩ : ∃ z : Nat, nL + cntTo hs j = z := ⟨_, rfl⟩
                      rw [hz1]
                      have HMO := Lib.hid hmo
                      have HZ1 := Lib.hid hz1
                      clear hmo hz1 hms
                      go_wp2
                      go_roundw
                      case rel => exact ⟨j + 1, by omega, by go_num, by have h7 := HMO.out; have h8 := HZ1.out; rw [if_neg (by simp)] at h7; rw [h7, Nat.add_zero, h8], SJ.out⟩
                      case measure => simp [intOf]; omega
                  · obtain rfl : j = top := by omega
                    rw [HCN.out] at hvj
                    subst hvj
                    have i1' : ¬ (j : Int) < (j : Int) := by omega
                    have hSd : (fun w' : World => KpS W w' w1.heap.size (w1.heap.size + 1) hs h A2 n2 c2 B2 m2 d2 p2) wr.drew := SJ.out.drew
                    go_wp2
                    first | (rename_i K hK; refine wp_held (fun w' : World => KpS W w' w1.heap.size (w1.heap.size + 1) hs h A2 n2 c2 B2 m2 d2 p2) K hmx ?_ (fun _ _ h => h)) | (rename_i K hK hz; refine wp_held (fun w' : World => KpS W w' w1.heap.size (w1.heap.size + 1) hs h A2 n2 c2 B2 m2 d2 p2) K hmx ?_ (fun _ _ h => h))
                    refine wpAnyH_take (i := 0) (v := .agg #[.int .i64 h, .slice A2 n2 c2, .slice B2 m2 d2]) (lit rfl) (by kernel_rfl) (by kernel_rfl) (by kernel_rfl) (fun _ _ _ h => h) (Or.inl ⟨by rfl, ?_⟩) hSd ?_
                    · rintro w6 sk
                      have a0 := sk.box.cell 0
                      have a1 := sk.box.cell 1
                      have a2 := sk.box.cell 2
                      go_simp
                    simp only [Act.put, List.setIfInBounds_toArray, List.set_cons_zero, List.set_cons_succ]
                    refine wpAnyH_take (i := 1) (v := .int .i64 (j : Int)) (lit rfl) (by kernel_rfl) (by kernel_rfl) (by kernel_rfl) (fun _ _ _ h => h) (Or.inl ⟨by rfl, ?_⟩) hSd ?_
                    · rintro w6 sk
                      go_simp
                    simp only [Act.put, List.setIfInBounds_toArray, List.set_cons_zero, List.set_cons_succ]
                    refine wpAnyH_ready (rs := [2]) (by kernel_rfl) (by simp) ?_
                    refine AllReadyH.cons (lit rfl) (fun K5 hK5 => ?_) AllReadyH.nil
                    refine step_open rfl ?_
                    go_simp
                    go_at_call 10
                    (with_reducible refine (HCK.out _ hSd).mono ?_)
                    rintro e20 w20 ⟨rfl, h20⟩
                    refine hK5.out _ _ h20 (fun _ => ?_)
                    clear hK5 K5
                    refine wpAnyH_take (i := 3) (v := .bool false) (lit rfl) (by kernel_rfl) (by kernel_rfl) (by kernel_rfl) (fun _ _ _ h => h) (Or.inl ⟨by rfl, ?_⟩) h20 ?_
                    · rintro w6 sk
                      go_simp
                    simp only [Act.put, List.setIfInBounds_toArray, List.set_cons_zero, List.set_cons_succ]
                    refine wpAnyH_take (i := 4) (v := .bool false) (lit rfl) (by kernel_rfl) (by kernel_rfl) (by kernel_rfl) (fun _ _ _ h => h) (Or.inl ⟨by rfl, ?_⟩) h20 ?_
                    · rintro w6 sk
                      go_simp
                    simp only [Act.put, List.setIfInBounds_toArray, List.set_cons_zero, List.set_cons_succ]
                    refine wpAnyH_take (i := 5) (v := .int .i64 (h - 2)) (lit rfl) (by kernel_rfl) (by kernel_rfl) (by kernel_rfl) (fun _ _ _ h => h) (Or.inl ⟨by rfl, ?_⟩) h20 ?_
                    · rintro w6 sk
                      go_simp
                    simp only [Act.put, List.setIfInBounds_toArray, List.set_cons_zero, List.set_cons_succ]
                    refine wpAnyH_take (i := 6) (v := .pointer (some ⟨w1.heap.size, 0, none⟩)) (lit rfl) (by kernel_rfl) (by kernel_rfl) (by kernel_rfl) (fun _ _ _ h => h) (Or.inl ⟨by rfl, ?_⟩) h20 ?_
                    · rintro w6 sk
                      go_simp
                    simp only [Act.put, List.setIfInBounds_toArray, List.set_cons_zero, List.set_cons_succ]
                    refine wpAnyH_take (i := 7) (v := .int .i64 h) (lit rfl) (by kernel_rfl) (by kernel_rfl) (by kernel_rfl) (fun _ _ _ h => h) (Or.inl ⟨by rfl, ?_⟩) h20 ?_
                    · rintro w6 sk
                      have a0 := sk.box.cell 0
                      have a1 := sk.box.cell 1
                      have a2 := sk.box.cell 2
                      go_simp
                    simp only [Act.put, List.setIfInBounds_toArray, List.set_cons_zero, List.set_cons_succ]
                    refine wpAnyH_take (i := 8) (v := .int .i64 (h - 2)) (lit rfl) (by kernel_rfl) (by kernel_rfl) (by kernel_rfl) (fun _ _ _ h => h) (Or.inl ⟨by rfl, ?_⟩) h20 ?_
                    · rintro w6 sk
                      go_simp
                    simp only [Act.put, List.setIfInBounds_toArray, List.set_cons_zero, List.set_cons_succ]
                    refine wpAnyH_take (i := 9) (v := .bool false) (lit rfl) (by kernel_rfl) (by kernel_rfl) (by kernel_rfl) (fun _ _ _ h => h) (Or.inl ⟨by rfl, ?_⟩) h20 ?_
                    · rintro w6 sk
                      go_simp
                    simp only [Act.put, List.setIfInBounds_toArray, List.set_cons_zero, List.set_cons_succ]
                    refine wpAnyH_take (i := 10) (v := .bool false) (lit rfl) (by kernel_rfl) (by kernel_rfl) (by kernel_rfl) (fun _ _ _ h => h) (Or.inl ⟨by rfl, ?_⟩) h20 ?_
                    · rintro w6 sk
                      go_simp
                    simp only [Act.put, List.setIfInBounds_toArray, List.set_cons_zero, List.set_cons_succ]
                    refine wpAnyH_take (i := 11) (v := .bool false) (lit rfl) (by kernel_rfl) (by kernel_rfl) (by kernel_rfl) (fun _ _ _ h => h) (Or.inl ⟨by rfl, ?_⟩) h20 ?_
                    · rintro w6 sk
                      go_simp
                    simp only [Act.put, List.setIfInBounds_toArray, List.set_cons_zero, List.set_cons_succ]
                    refine wpAnyH_take (i := 12) (v := .pointer (some ⟨w1.heap.size, 1, none⟩)) (lit rfl) (by kernel_rfl) (by kernel_rfl) (by kernel_rfl) (fun _ _ _ h => h) (Or.inl ⟨by rfl, ?_⟩) h20 ?_
                    · rintro w6 sk
                      go_simp
                    simp only [Act.put, List.setIfInBounds_toArray, List.set_cons_zero, List.set_cons_succ]
                    refine wpAnyH_take (i := 13) (v := .slice A2 n2 c2) (lit rfl) (by kernel_rfl) (by kernel_rfl) (by kernel_rfl) (fun _ _ _ h => h) (Or.inl ⟨by rfl, ?_⟩) h20 ?_
                    · rintro w6 sk
                      have a0 := sk.box.cell 0
                      have a1 := sk.box.cell 1
                      have a2 := sk.box.cell 2
                      go_simp
                    simp only [Act.put, List.setIfInBounds_toArray, List.set_cons_zero, List.set_cons_succ]
                    refine wpAnyH_take (i := 14) (v := .int .i64 (n2 : Int)) (lit rfl) (by kernel_rfl) (by kernel_rfl) (by kernel_rfl) (fun _ _ _ h => h) (Or.inl ⟨by rfl, ?_⟩) h20 ?_
                    · rintro w6 sk
                      go_simp
                    simp only [Act.put, List.setIfInBounds_toArray, List.set_cons_zero, List.set_cons_succ]
                    refine wpAnyH_take (i := 15) (v := .agg #[.int .i64 h, .slice A2 n2 c2, .slice B2 m2 d2]) (lit rfl) (by kernel_rfl) (by kernel_rfl) (by kernel_rfl) (fun _ _ _ h => h) (Or.inl ⟨by rfl, ?_⟩) h20 ?_
                    · rintro w6 sk
                      have a0 := sk.box.cell 0
                      have a1 := sk.box.cell 1
                      have a2 := sk.box.cell 2
                      go_simp
                    simp only [Act.put, List.setIfInBounds_toArray, List.set_cons_zero, List.set_cons_succ]
                    refine wpAnyH_take (i := 18) (v := .agg #[.int .i64 h, .slice A2 n2 c2, .slice B2 m2 d2]) (lit rfl) (by kernel_rfl) (by kernel_rfl) (by kernel_rfl) (fun _ _ _ h => h) (Or.inl ⟨by rfl, ?_⟩) h20 ?_
                    · rintro w6 sk
                      have a0 := sk.box.cell 0
                      have a1 := sk.box.cell 1
                      have a2 := sk.box.cell 2
                      go_simp
                    simp only [Act.put, List.setIfInBounds_toArray, List.set_cons_zero, List.set_cons_succ]
                    refine wpAnyH_ready (rs := [16]) (by kernel_rfl) (by simp) ?_
                    refine AllReadyH.cons (lit rfl) (fun K5 hK5 => ?_) AllReadyH.nil
                    go_simp
                    go_at_call 14
                    (with_reducible refine (HWT.out _ h20).mono ?_)
                    rintro e21 w21 ⟨rfl, h21⟩
                    refine hK5.out _ _ h21 (fun _ => ?_)
                    clear hK5 K5
                    refine wpAnyH_take (i := 17) (v := .int .i64 (nL : Int)) (lit rfl) (by kernel_rfl) (by kernel_rfl) (by kernel_rfl) (fun _ _ _ h => h) (Or.inl ⟨by rfl, ?_⟩) h21 ?_
                    · rintro w6 sk
                      go_simp
                    simp only [Act.put, List.setIfInBounds_toArray, List.set_cons_zero, List.set_cons_succ]
                    refine wpAnyH_ready (rs := [19]) (by kernel_rfl) (by simp) ?_
                    refine AllReadyH.cons (lit rfl) (fun K5 hK5 => ?_) AllReadyH.nil
                    go_simp
                    go_at_call 17
                    (with_reducible refine (HLS.out _ h21).mono ?_)
                    rintro e22 w22 ⟨L22, c22, rfl, h22⟩
                    refine hK5.out _ _ h22 (fun _ => ?_)
                    clear hK5 K5
                    refine wpAnyH_take (i := 20) (v := .int .i64 (nL : Int)) (lit rfl) (by kernel_rfl) (by kernel_rfl) (by kernel_rfl) (fun _ _ _ h => h) (Or.inl ⟨by rfl, ?_⟩) h22 ?_
                    · rintro w6 sk
                      go_simp
                    simp only [Act.put, List.setIfInBounds_toArray, List.set_cons_zero, List.set_cons_succ]
                    refine wpAnyH_take (i := 21) (v := .bool false) (lit rfl) (by kernel_rfl) (by kernel_rfl) (by kernel_rfl) (fun _ _ _ h => h) (Or.inl ⟨by rfl, ?_⟩) h22 ?_
                    · rintro w6 sk
                      go_simp
                    simp only [Act.put, List.setIfInBounds_toArray, List.set_cons_zero, List.set_cons_succ]
                    refine wpAnyH_take (i := 22) (v := .bool false) (lit rfl) (by kernel_rfl) (by kernel_rfl) (by kernel_rfl) (fun _ _ _ h => h) (Or.inl ⟨by rfl, ?_⟩) h22 ?_
                    · rintro w6 sk
                      go_simp
                    simp only [Act.put, List.setIfInBounds_toArray, List.set_cons_zero, List.set_cons_succ]
                    refine wpAnyH_done (by kernel_rfl) ?_ _
                    refine hK _ _ ?_
                    go_wp2
                    go_roundw
                    case rel => exact ⟨k + 1, tt, _, _, _, _, _, _, _, _, _, by omega, by go_num, rfl, by omega, h22, TP.out⟩
                    case measure => simp [intOf]; omega
              · as_aux_lemma =>
                have e0 : (kd == 0) = false := by simpa using h0
                have e1 : (kd == 1) = false := by simpa using h1
                have e2 : (kd == 2) = false := by simpa using h2
                have e3 : (kd == 3) = false := by simpa using h3
                have T0 := HS
                have TP := HKP
                have htt2 : tt ≤ k + 2 := by omega
                obtain ⟨nL, hnL⟩ : ∃ nL, (listedP p).length = nL := ⟨_, rfl⟩
                obtain ⟨nW, hnW⟩ : ∃ nW, (catZ p.wait).length = nW := ⟨_, rfl⟩
                have HLS := Lib.hid (fun w5 (s : KpS W w5 w1.heap.size (w1.heap.size + 1) hs h A1 n1 c1 B1 m1 d1 p) => s.list TP.out ht1)
                have HCK := Lib.hid (fun w5 (s : KpS W w5 w1.heap.size (w1.heap.size + 1) hs h A1 n1 c1 B1 m1 d1 p) => s.check TP.out ht1)
                have HWT := Lib.hid (fun w5 (s : KpS W w5 w1.heap.size (w1.heap.size + 1) hs h A1 n1 c1 B1 m1 d1 p) => s.waits TP.out ht1)
                rw [hnL] at HLS
                rw [hnW] at HWT
                have hcn := TP.out.count
                rw [hnL, T0.out.hi] at hcn
                have HCN : Hid (((nL + cntTo hs top : Nat) : Int) = h - 2) := Lib.hid hcn
                have hln : (listedP p).length = p.free.length + (catZ p.wait).length := by unfold listedP; rw [srtZ_len, List.length_append]
                have hfr : n1 = p.free.length := T0.out.pool.free.len
                rw [hnL, hnW, ← hfr] at hln
                have hsm := TP.out.small ht1
                unfold smallR at hsm
                rw [hnW, ← hfr, T0.out.hi] at hsm
                have hw17 : IntKind.i64.wrap ((n1 : Int) + (nW : Int)) = (nL : Int) := by rw [IntKind.wrap_i64]; omega
                have hw8 : IntKind.i64.wrap (h - 2) = h - 2 := by rw [IntKind.wrap_i64]; omega
                have hb1 : h ≤ 2097152 := by omega
                have hb0 : -4096 ≤ h := by omega
                have HNL : Hid (nL ≤ 10000) := Lib.hid (by omega)
                have HLE := Lib.hid TP.out.len
                clear hnL hnW hcn hln hfr hsm
                have y0 := T0.out.box.cell 0
                have y1 := T0.out.box.cell 1
                have y2 := T0.out.box.cell 2
                go_wp2_with (go_at_call 17; (with_reducible refine (HLS.out _ T0.out).mono ?_); rintro e w6 ⟨L6, c6, rfl, h6⟩; have T6 := Lib.hid h6; clear h6)
                obtain ⟨wo, hwo⟩ : ∃ wo : World, wo = wr := ⟨_, rfl⟩
                go_loopw [17, 18] (fun v i wr => ∃ j : Nat, j ≤ top ∧ i = .int .i64 (j : Int) ∧ v = .int .i64 ((nL + cntTo hs j : Nat) : Int) ∧ KpS W wr w1.heap.size (w1.heap.size + 1) hs h A1 n1 c1 B1 m1 d1 p) (fun _ i _ => top - (intOf i).toNat)
                case atStart => exact ⟨0, Nat.zero_le _, rfl, rfl, T6.out⟩
                case round =>
                  obtain ⟨j, hj, rfl, hvj, hS⟩ := hrel
                  have SJ := Lib.hid hS
                  clear hS
                  by_cases hjt : j < top
                  · subst hvj
                    have hcj := SJ.out.at (show j < hs.length by rw [HLE.out]; exact hjt)
                    have hmo := cntTo_more hs j
                    have hms := cntTo_most hs j
                    have i0' : (0 : Int) ≤ (j : Int) := by omega
                    have i1' : (j : Int) < (top : Int) := by omega
                    generalize hs.getD j false = bj at hcj hmo
                    cases bj with
                    | true =>
                      have hwn : IntKind.i64.wrap (((nL + cntTo hs j : Nat) : Int) + 1) = ((nL + cntTo hs (j + 1) : Nat) : Int) := by have := HNL.out; rw [IntKind.wrap_i64, hmo]; simp only [if_true]; omega
                      obtain ⟨z1, hz1⟩ : ∃ z : Nat, nL + cntTo hs j = z := ⟨_, rfl⟩
                      rw [hz1] at hwn ⊢
                      have hwn2 : IntKind.i64.wrap ((z1 : Int) + 1) = ((z1 + 1 : Nat) : Int) := by have := HNL.out; rw [IntKind.wrap_i64]; omega
                      clear hwn
                      have HMO := Lib.hid hmo
                      have HZ1 := Lib.hid hz1
                      clear hmo hz1 hms
                      go_wp2
                      go_roundw
                      case rel => exact ⟨j + 1, by omega, by go_num, by have h7 := HMO.out; have h8 := HZ1.out; rw [if_pos rfl] at h7; rw [h7, ← h8]; go_num, SJ.out⟩
                      case measure => simp [intOf]; omega
                    | false =>
                      obtain ⟨z1, hz1⟩ : ∃ z : Nat, nL + cntTo hs j = z := ⟨_, rfl⟩
                      rw [hz1]
                      have HMO := Lib.hid hmo
                      have HZ1 := Lib.hid hz1
                      clear hmo hz1 hms
                      go_wp2
                      go_roundw
                      case rel => exact ⟨j + 1, by omega, by go_num, by have h7 := HMO.out; have h8 := HZ1.out; rw [if_neg (by simp)] at h7; rw [h7, Nat.add_zero, h8], SJ.out⟩
                      case measure => simp [intOf]; omega
                  · obtain rfl : j = top := by omega
                    rw [HCN.out] at hvj
                    subst hvj
                    have i1' : ¬ (j : Int) < (j : Int) := by omega
                    have hSd : (fun w' : World => KpS W w' w1.heap.size (w1.heap.size + 1) hs h A1 n1 c1 B1 m1 d1 p) wr.drew := SJ.out.drew
                    go_wp2
                    first | (rename_i K hK; refine wp_held (fun w' : World => KpS W w' w1.heap.size (w1.heap.size + 1) hs h A1 n1 c1 B1 m1 d1 p) K hmx ?_ (fun _ _ h => h)) | (rename_i K hK hz; refine wp_held (fun w' : World => KpS W w' w1.heap.size (w1.heap.size + 1) hs h A1 n1 c1 B1 m1 d1 p) K hmx ?_ (fun _ _ h => h))
                    refine wpAnyH_take (i := 0) (v := .agg #[.int .i64 h, .slice A1 n1 c1, .slice B1 m1 d1]) (lit rfl) (by kernel_rfl) (by kernel_rfl) (by kernel_rfl) (fun _ _ _ h => h) (Or.inl ⟨by rfl, ?_⟩) hSd ?_
                    · rintro w6 sk
                      have a0 := sk.box.cell 0
                      have a1 := sk.box.cell 1
                      have a2 := sk.box.cell 2
                      go_simp
                    simp only [Act.put, List.setIfInBounds_toArray, List.set_cons_zero, List.set_cons_succ]
                    refine wpAnyH_take (i := 1) (v := .int .i64 (j : Int)) (lit rfl) (by kernel_rfl) (by kernel_rfl) (by kernel_rfl) (fun _ _ _ h => h) (Or.inl ⟨by rfl, ?_⟩) hSd ?_
                    · rintro w6 sk
                      go_simp
                    simp only [Act.put, List.setIfInBounds_toArray, List.set_cons_zero, List.set_cons_succ]
                    refine wpAnyH_ready (rs := [2]) (by kernel_rfl) (by simp) ?_
                    refine AllReadyH.cons (lit rfl) (fun K5 hK5 => ?_) AllReadyH.nil
                    refine step_open rfl ?_
                    go_simp
                    go_at_call 10
                    (with_reducible refine (HCK.out _ hSd).mono ?_)
                    rintro e20 w20 ⟨rfl, h20⟩
                    refine hK5.out _ _ h20 (fun _ => ?_)
                    clear hK5 K5
                    refine wpAnyH_take (i := 3) (v := .bool false) (lit rfl) (by kernel_rfl) (by kernel_rfl) (by kernel_rfl) (fun _ _ _ h => h) (Or.inl ⟨by rfl, ?_⟩) h20 ?_
                    · rintro w6 sk
                      go_simp
                    simp only [Act.put, List.setIfInBounds_toArray, List.set_cons_zero, List.set_cons_succ]
                    refine wpAnyH_take (i := 4) (v := .bool false) (lit rfl) (by kernel_rfl) (by kernel_rfl) (by kernel_rfl) (fun _ _ _ h => h) (Or.inl ⟨by rfl, ?_⟩) h20 ?_
                    · rintro w6 sk
                      go_simp
                    simp only [Act.put, List.setIfInBounds_toArray, List.set_cons_zero, List.set_cons_succ]
                    refine wpAnyH_take (i := 5) (v := .int .i64 (h - 2)) (lit rfl) (by kernel_rfl) (by kernel_rfl) (by kernel_rfl) (fun _ _ _ h => h) (Or.inl ⟨by rfl, ?_⟩) h20 ?_
                    · rintro w6 sk
                      go_simp
                    simp only [Act.put, List.setIfInBounds_toArray, List.set_cons_zero, List.set_cons_succ]
                    refine wpAnyH_take (i := 6) (v := .pointer (some ⟨w1.heap.size, 0, none⟩)) (lit rfl) (by kernel_rfl) (by kernel_rfl) (by kernel_rfl) (fun _ _ _ h => h) (Or.inl ⟨by rfl, ?_⟩) h20 ?_
                    · rintro w6 sk
                      go_simp
                    simp only [Act.put, List.setIfInBounds_toArray, List.set_cons_zero, List.set_cons_succ]
                    refine wpAnyH_take (i := 7) (v := .int .i64 h) (lit rfl) (by kernel_rfl) (by kernel_rfl) (by kernel_rfl) (fun _ _ _ h => h) (Or.inl ⟨by rfl, ?_⟩) h20 ?_
                    · rintro w6 sk
                      have a0 := sk.box.cell 0
                      have a1 := sk.box.cell 1
                      have a2 := sk.box.cell 2
                      go_simp
                    simp only [Act.put, List.setIfInBounds_toArray, List.set_cons_zero, List.set_cons_succ]
                    refine wpAnyH_take (i := 8) (v := .int .i64 (h - 2)) (lit rfl) (by kernel_rfl) (by kernel_rfl) (by kernel_rfl) (fun _ _ _ h => h) (Or.inl ⟨by rfl, ?_⟩) h20 ?_
                    · rintro w6 sk
                      go_simp
                    simp only [Act.put, List.setIfInBounds_toArray, List.set_cons_zero, List.set_cons_succ]
                    refine wpAnyH_take (i := 9) (v := .bool false) (lit rfl) (by kernel_rfl) (by kernel_rfl) (by kernel_rfl) (fun _ _ _ h => h) (Or.inl ⟨by rfl, ?_⟩) h20 ?_
                    · rintro w6 sk
                      go_simp
                    simp only [Act.put, List.setIfInBounds_toArray, List.set_cons_zero, List.set_cons_succ]
                    refine wpAnyH_take (i := 10) (v := .bool false) (lit rfl) (by kernel_rfl) (by kernel_rfl) (by kernel_rfl) (fun _ _ _ h => h) (Or.inl ⟨by rfl, ?_⟩) h20 ?_
                    · rintro w6 sk
                      go_simp
                    simp only [Act.put, List.setIfInBounds_toArray, List.set_cons_zero, List.set_cons_succ]
                    refine wpAnyH_take (i := 11) (v := .bool false) (lit rfl) (by kernel_rfl) (by kernel_rfl) (by kernel_rfl) (fun _ _ _ h => h) (Or.inl ⟨by rfl, ?_⟩) h20 ?_
                    · rintro w6 sk
                      go_simp
                    simp only [Act.put, List.setIfInBounds_toArray, List.set_cons_zero, List.set_cons_succ]
                    refine wpAnyH_take (i := 12) (v := .pointer (some ⟨w1.heap.size, 1, none⟩)) (lit rfl) (by kernel_rfl) (by kernel_rfl) (by kernel_rfl) (fun _ _ _ h => h) (Or.inl ⟨by rfl, ?_⟩) h20 ?_
                    · rintro w6 sk
                      go_simp
                    simp only [Act.put, List.setIfInBounds_toArray, List.set_cons_zero, List.set_cons_succ]
                    refine wpAnyH_take (i := 13) (v := .slice A1 n1 c1) (lit rfl) (by kernel_rfl) (by kernel_rfl) (by kernel_rfl) (fun _ _ _ h => h) (Or.inl ⟨by rfl, ?_⟩) h20 ?_
                    · rintro w6 sk
                      have a0 := sk.box.cell 0
                      have a1 := sk.box.cell 1
                      have a2 := sk.box.cell 2
                      go_simp
                    simp only [Act.put, List.setIfInBounds_toArray, List.set_cons_zero, List.set_cons_succ]
                    refine wpAnyH_take (i := 14) (v := .int .i64 (n1 : Int)) (lit rfl) (by kernel_rfl) (by kernel_rfl) (by kernel_rfl) (fun _ _ _ h => h) (Or.inl ⟨by rfl, ?_⟩) h20 ?_
                    · rintro w6 sk
                      go_simp
                    simp only [Act.put, List.setIfInBounds_toArray, List.set_cons_zero, List.set_cons_succ]
                    refine wpAnyH_take (i := 15) (v := .agg #[.int .i64 h, .slice A1 n1 c1, .slice B1 m1 d1]) (lit rfl) (by kernel_rfl) (by kernel_rfl) (by kernel_rfl) (fun _ _ _ h => h) (Or.inl ⟨by rfl, ?_⟩) h20 ?_
                    · rintro w6 sk
                      have a0 := sk.box.cell 0
                      have a1 := sk.box.cell 1
                      have a2 := sk.box.cell 2
                      go_simp
                    simp only [Act.put, List.setIfInBounds_toArray, List.set_cons_zero, List.set_cons_succ]
                    refine wpAnyH_take (i := 18) (v := .agg #[.int .i64 h, .slice A1 n1 c1, .slice B1 m1 d1]) (lit rfl) (by kernel_rfl) (by kernel_rfl) (by kernel_rfl) (fun _ _ _ h => h) (Or.inl ⟨by rfl, ?_⟩) h20 ?_
                    · rintro w6 sk
                      have a0 := sk.box.cell 0
                      have a1 := sk.box.cell 1
                      have a2 := sk.box.cell 2
                      go_simp
                    simp only [Act.put, List.setIfInBounds_toArray, List.set_cons_zero, List.set_cons_succ]
                    refine wpAnyH_ready (rs := [16]) (by kernel_rfl) (by simp) ?_
                    refine AllReadyH.cons (lit rfl) (fun K5 hK5 => ?_) AllReadyH.nil
                    go_simp
                    go_at_call 14
                    (with_reducible refine (HWT.out _ h20).mono ?_)
                    rintro e21 w21 ⟨rfl, h21⟩
                    refine hK5.out _ _ h21 (fun _ => ?_)
                    clear hK5 K5
                    refine wpAnyH_take (i := 17) (v := .int .i64 (nL : Int)) (lit rfl) (by kernel_rfl) (by kernel_rfl) (by kernel_rfl) (fun _ _ _ h => h) (Or.inl ⟨by rfl, ?_⟩) h21 ?_
                    · rintro w6 sk
                      go_simp
                    simp only [Act.put, List.setIfInBounds_toArray, List.set_cons_zero, List.set_cons_succ]
                    refine wpAnyH_ready (rs := [19]) (by kernel_rfl) (by simp) ?_
                    refine AllReadyH.cons (lit rfl) (fun K5 hK5 => ?_) AllReadyH.nil
                    go_simp
                    go_at_call 17
                    (with_reducible refine (HLS.out _ h21).mono ?_)
                    rintro e22 w22 ⟨L22, c22, rfl, h22⟩
                    refine hK5.out _ _ h22 (fun _ => ?_)
                    clear hK5 K5
                    refine wpAnyH_take (i := 20) (v := .int .i64 (nL : Int)) (lit rfl) (by kernel_rfl) (by kernel_rfl) (by kernel_rfl) (fun _ _ _ h => h) (Or.inl ⟨by rfl, ?_⟩) h22 ?_
                    · rintro w6 sk
                      go_simp
                    simp only [Act.put, List.setIfInBounds_toArray, List.set_cons_zero, List.set_cons_succ]
                    refine wpAnyH_take (i := 21) (v := .bool false) (lit rfl) (by kernel_rfl) (by kernel_rfl) (by kernel_rfl) (fun _ _ _ h => h) (Or.inl ⟨by rfl, ?_⟩) h22 ?_
                    · rintro w6 sk
                      go_simp
                    simp only [Act.put, List.setIfInBounds_toArray, List.set_cons_zero, List.set_cons_succ]
                    refine wpAnyH_take (i := 22) (v := .bool false) (lit rfl) (by kernel_rfl) (by kernel_rfl) (by kernel_rfl) (fun _ _ _ h => h) (Or.inl ⟨by rfl, ?_⟩) h22 ?_
                    · rintro w6 sk
                      go_simp
                    simp only [Act.put, List.setIfInBounds_toArray, List.set_cons_zero, List.set_cons_succ]
                    refine wpAnyH_done (by kernel_rfl) ?_ _
                    refine hK _ _ ?_
                    go_wp2
                    go_roundw
                    case rel => exact ⟨k + 1, tt, _, _, _, _, _, _, _, _, _, by omega, by go_num, rfl, by omega, h22, TP.out⟩
                    case measure => simp [intOf]; omega
      · have hltI : ¬ (k : Int) < (n : Int) := by omega
        go_wp2
        go_ret
        exact ⟨rfl, HS.out.bel⟩
end Go.Proofs.Ytoelojlabmconaa
