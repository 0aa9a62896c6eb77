import Derived.Test.YthcjledpjlpfaaaDoorJFlt
import Derived.Test.YthcjledpjlpfaaaDoorJFlu
import Derived.Test.YthcjledpjlpfaaaDoorJ11
/- Of a claim's texts, joined: Flv. No statement but in the last. -/
namespace Go.Proofs.YthcjledpjlpfaaaDoor
open Go.RowKit
set_option linter.unusedVariables false

structure GrSt (w wr : World) (u v : Value) (l a : List Int) : Prop where
  ol : wr.ownsRow w.heap.size 3 1 u l.length (l.map (Value.int .i64))
  oa : wr.ownsRow w.heap.size 3 1 v a.length (a.map (Value.int .i64))
  ne : Apart u v
  be : Below w.heap.size w wr
section
variable {w wr w4 : World} {u u' v v' : Value} {l a : List Int} {x : Int} {tmp : Obj} {Q : Nat} {c : List UInt8} {er : Int}
theorem GrSt.below (h : GrSt w wr u v l a) (hb : Below wr.heap.size wr w4) : GrSt w w4 u v l a :=
  ⟨ceOwnBelow h.ol hb, ceOwnBelow h.oa hb, h.ne, below_step h.be hb⟩
theorem GrSt.alloc (h : GrSt w wr u v l a) (o : Obj) : GrSt w (wr.alloc o) u v l a := h.below ((Below.refl _ wr).alloc (Nat.le_refl _) o)
theorem GrSt.addL (h : GrSt w wr u v l a) (ho : w4.ownsRow w.heap.size 3 1 u' (l.length + 1) (l.map (Value.int .i64) ++ [.int .i64 x])) (hg : (wr.alloc tmp).grownBy w4 u.ownBlock) (hat : u'.ownBlock = u.ownBlock ∨ u'.ownBlock = some (wr.alloc tmp).heap.size) : GrSt w w4 u' v (l ++ [x]) a := by
  have ha := h.alloc tmp
  exact ⟨by rw [List.length_append, List.map_append]; exact ho, ha.oa.kept hg ha.ne.off, ha.ne.next ha.oa hat, below_ownR ha.be hg ha.ol ha.be.size⟩
theorem GrSt.addA (h : GrSt w wr u v l a) (ho : w4.ownsRow w.heap.size 3 1 v' (a.length + 1) (a.map (Value.int .i64) ++ [.int .i64 x])) (hg : (wr.alloc tmp).grownBy w4 v.ownBlock) (hat : v'.ownBlock = v.ownBlock ∨ v'.ownBlock = some (wr.alloc tmp).heap.size) : GrSt w w4 u v' l (a ++ [x]) := by
  have ha := h.alloc tmp
  exact ⟨ha.ol.kept hg ha.ne.symm.off, by rw [List.length_append, List.map_append]; exact ho, (ha.ne.symm.next ha.ol hat).symm, below_ownR ha.be hg ha.oa ha.be.size⟩
theorem GrSt.turn (h : GrSt w wr u v l a) (hT : RT wr Q c er) (hQ : w.heap.size ≤ Q) (hg : wr.grownBy w4 (some Q)) : GrSt w w4 u v l a :=
  ⟨h.ol.kept hg (.inr (ne_T h.ol hT)), h.oa.kept hg (.inr (ne_T h.oa hT)), h.ne, h.be.trans (below_only hg hQ h.be.size)⟩
theorem RT.own {B s n : Nat} {xs : List Value} (h : RT wr Q c er) (ho : wr.ownsRow B 3 s u n xs) (hg : wr.grownBy w4 u.ownBlock) : RT w4 Q c er := Has.grown h hg (fun e => ne_T ho h e.symm)
theorem RT.below11 (h : RT wr Q c er) (hb : Below wr.heap.size wr w4) : RT w4 Q c er := Has.below h hb (Has.lt h)
end
theorem own_ints {w : World} {B n m c : Nat} {A : Option Addr} {l : List Int} (h : w.ownsRow B 3 1 (.slice A n c) m (l.map (Value.int .i64))) : n = m ∧ Ints6 w A n l := by
  obtain ⟨A', c', e, _, _, hI⟩ := Ints6.of_own h
  injection e with e1 e2 e3
  subst e1 e2 e3
  exact ⟨rfl, hI⟩
theorem getLs_read {rd : Int → List UInt8 × Int} {f : Nat} {p : Int} {l a : List Int} {b : List UInt8} {er : Int} (hr : rd p = (b, er)) (he : er ≠ 0) : getLs rd (f + 1) p l a = ([], [], er) := by
  rw [getLs, hr, if_pos he]
theorem getLs_unp {rd : Int → List UInt8 × Int} {f : Nat} {p : Int} {l a : List Int} {b : List UInt8} {kd : UInt8} {cs : List (List UInt8)} {er : Int} (hr : rd p = (b, 0)) (hu : unpN b = (kd, cs, er)) (he : er ≠ 0) : getLs rd (f + 1) p l a = ([], [], er) := by
  rw [getLs, hr, if_neg (by simp), hu, if_pos he]
theorem getLs_form {rd : Int → List UInt8 × Int} {f : Nat} {p : Int} {l a : List Int} {b : List UInt8} {kd : UInt8} {cs : List (List UInt8)} (hr : rd p = (b, 0)) (hu : unpN b = (kd, cs, 0)) (he : kd ≠ 4 ∨ cs.length ≠ 1 ∨ (cs.headD []).length < 2 ∨ (cs.headD []).length % 2 = 1) : getLs rd (f + 1) p l a = ([], [], 11) := by
  have hb : badPg b := by
    unfold badPg
    rw [hu]
    exact he
  rw [getLs, hr, if_neg (by simp), if_neg (by rw [hu]; simp), if_pos hb]
theorem gpL_one {b : List UInt8} {c : List UInt8} {m : Nat} (hu : unpN b = (4, [c], 0)) (hc : c.length = 2 * m + 2) : gpL b 0 = (numsL (c.drop 2), ((numOf (c.take 2) : Nat) : Int), 0) := by
  unfold gpL restL nextL
  rw [if_neg (by simp), hu, if_neg (by simp), if_neg (by unfold badPg; rw [hu]; simp only [List.headD_cons, List.length_singleton, ne_eq, not_true_eq_false, false_or, not_or]; omega)]
  rfl
section
variable {w : World} {T : Tg} {A : Option Addr} {n0 c0 : Nat} {gs : List Gx}
set_option maxRecDepth 100000 in
set_option maxHeartbeats 8000000 in
theorem r11Get_any (x first : Int) (h : GA w T A n0 c0 gs) (hfew : ∀ r ∈ rgs gs, r.loose.length ≤ 1000) (hsz : ∀ p, rdE (rgs gs) x p = 0 → 0 ≤ p ∧ p < 1000) : Calls Tryd.prog 21 #[.slice A n0 c0, .int .i64 x, .int .i64 first] w (GetEndL (getL (fun p => (rdL (rgs gs) x p, rdE (rgs gs) x p)) first) w) := by
  have hmx : Tryd.prog.follows .mixedOrders = true := by kernel_rfl
  obtain ⟨R, hR⟩ : ∃ R, getL (fun p => (rdL (rgs gs) x p, rdE (rgs gs) x p)) first = R := ⟨_, rfl⟩
  have hR0 : (first = 0 ∧ (([], [], 0) : List Int × List Int × Int) = R) ∨ (first ≠ 0 ∧ getLs (fun p => (rdL (rgs gs) x p, rdE (rgs gs) x p)) 1001 first [] [] = R) := by
    rw [← hR]
    unfold getL
    by_cases h0 : first = 0
    · exact Or.inl ⟨h0, by rw [if_pos h0]⟩
    · exact Or.inr ⟨h0, by rw [if_neg h0]⟩
  rw [hR]
  have HR0 := Lib.hid hR0
  obtain ⟨i0, hi, hz0', hsz', hby⟩ := info_parts int_info
  have HDL9 := Lib.hid (fun p => Nat.le_trans (rdL_len h x p) (show 128 ≤ 1000000 by decide))
  have HD := Lib.hid (fun wr (hb : Below w.heap.size w wr) p => r6Read_any x p (h.below hb) hfew)
  have HLS := Lib.hid (fun A n c l w1 h hn => r11listed_any A n c l w1 h hn)
  have HHS := Lib.hid (fun A n c l y w1 h hn => r11has_any A n c l y w1 h hn)
  have HSZ := Lib.hid hsz
  clear h hR hR0 hsz hfew
  go_enter Tryd.func21, Tryd.ntmps21
  go_wp2
  go_loopw [2, 9, 10] (fun v2 v9 v10 wr => ∃ (f : Nat) (p : Int) (l a : List Int), v2 = .int .i64 p ∧ GrSt w wr v9 v10 l a ∧ a.length ≤ 1001 ∧ ((p = 0 ∧ (l, a, (0 : Int)) = R) ∨ (p ≠ 0 ∧ getLs (fun p => (rdL (rgs gs) x p, rdE (rgs gs) x p)) f p l a = R ∧ leftP a < f ∧ f + a.length = 1001 ∧ p ∉ a ∧ l.length ≤ 59 * a.length))) (fun _ _ v10 _ => 1001 - lenV v10)
  case atStart =>
    refine ⟨1001, first, [], [], rfl, ⟨World.ownsRow_nil _ _ _ _, World.ownsRow_nil _ _ _ _, Or.inl rfl, Below.refl _ _⟩, by simp, ?_⟩
    rcases HR0.out with h | h
    · exact Or.inl h
    · exact Or.inr ⟨h.1, h.2, Nat.lt_succ_of_le leftP_nil, rfl, by simp, by simp⟩
  case round =>
    obtain ⟨f, p, l, a, rfl, hgs, ha1, hor⟩ := hrel
    obtain ⟨wv, hwv⟩ : ∃ wv : World, wv = wr := ⟨_, rfl⟩
    subst hwv
    have GS := Lib.hid hgs
    obtain ⟨A9, c9, rfl, _, _, hI9⟩ := Ints6.of_own hgs.ol
    obtain ⟨A10, c10, rfl, _, _, hI10⟩ := Ints6.of_own hgs.oa
    have I9 := Lib.hid hI9
    have I10 := Lib.hid hI10
    by_cases hp0 : p = 0
    · subst hp0
      have HE : Hid ((l, a, (0 : Int)) = R) := Lib.hid (by
        rcases hor with h | h
        · exact h.2
        · exact absurd rfl h.1)
      clear hor hgs hI9 hI10
      go_wp2
      go_ret3
      rw [← HE.out]
      exact ⟨A9, _, c9, A10, _, c10, rfl, I9.out, I10.out, GS.out.be⟩
    · have hp0b : (p == 0) = false := by simpa using hp0
      have hp0n : (p != 0) = true := by simpa using hp0
      obtain ⟨hF, hlf, hfa, hpa, hla⟩ : getLs (fun p => (rdL (rgs gs) x p, rdE (rgs gs) x p)) f p l a = R ∧ leftP a < f ∧ f + a.length = 1001 ∧ p ∉ a ∧ l.length ≤ 59 * a.length := by
        rcases hor with h | h
        · exact absurd h.1 hp0
        · exact h.2
      obtain ⟨f, rfl⟩ : ∃ f', f = f' + 1 := ⟨f - 1, by omega⟩
      have hal : a.length ≤ 1000 := by omega
      have hll : l.length ≤ 59000 := by omega
      have HF := Lib.hid hF
      have HLF := Lib.hid hlf
      have HFA := Lib.hid hfa
      have HPA := Lib.hid hpa
      have HLA := Lib.hid hla
      have HP0 := Lib.hid hp0
      clear hor hgs hF hlf hfa hpa hla hp0 hI9 hI10
      have HRD := Lib.hid (HD.out wv GS.out.be p)
      unfold txtV at HRD
      obtain ⟨b, hb⟩ : ∃ b, rdL (rgs gs) x p = b := ⟨_, rfl⟩
      obtain ⟨er, her⟩ : ∃ er, rdE (rgs gs) x p = er := ⟨_, rfl⟩
      have hbl : b.length ≤ 1000000 := by rw [← hb]; exact HDL9.out p
      rw [hb, her] at HRD
      have HRL := Lib.hid hb
      have HRE := Lib.hid her
      clear hb her
      by_cases he : er = 0
      · subst he
        have HPG : Hid (0 ≤ p ∧ p < 1000) := Lib.hid (HSZ.out p HRE.out)
        have HUN : Hid (∀ w1, Calls Tryd.prog 44 #[.string ⟨b.toArray⟩] w1 (RUnpRow (unpN b) w1)) := Lib.hid (fun w1 => r7Unpack_row ⟨b.toArray⟩ w1 (by rw [size_list]; exact hbl))
        obtain ⟨⟨kd, cs, e2⟩, hu⟩ : ∃ u, unpN b = u := ⟨_, rfl⟩
        rw [hu] at HUN
        generalize hbb : (⟨b.toArray⟩ : ByteArray) = bb at HUN HRD
        clear hbb
        have HU := Lib.hid hu
        clear hu
        by_cases he2 : e2 = 0
        · subst he2
          by_cases hk : kd = 4
          · subst hk
            by_cases hc1 : cs.length = 1
            · obtain ⟨c, rfl⟩ : ∃ c, cs = [c] := by
                rcases cs with _ | ⟨c, _ | ⟨d, r⟩⟩
                · cases hc1
                · exact ⟨c, rfl⟩
                · simp at hc1
              obtain ⟨cb, hcb⟩ : ∃ cb : ByteArray, (⟨c.toArray⟩ : ByteArray) = cb := ⟨_, rfl⟩
              have hcs : cb.size = c.length := by rw [← hcb, size_list]
              have HCB := Lib.hid hcb
              have hcl : c.length ≤ 128 := unpN_len11 (b := b) (by rw [HU.out]) c (by rw [HU.out]; simp)
              have hcs128 : cb.size ≤ 128 := by omega
              clear hc1 hcb
              by_cases hs2 : c.length < 2
              · have HE : Hid (R = ([], [], 11)) := Lib.hid (by
                  rw [← HF.out]
                  exact getLs_form (b := b) (by show (rdL _ x p, rdE _ x p) = _; rw [HRE.out, HRL.out]) HU.out (by right; right; left; exact hs2))
                have hsI : (cb.size : Int) < 2 := by omega
                clear hs2 hcs hcl
                go_wp2_with (first
                  | (go_at_call 43; go_loud ((with_reducible refine HRD.out.mono ?_); rintro e w1 ⟨rfl, b1⟩; have B1 := Lib.hid b1; clear b1))
                  | (go_at_call 44; go_loud ((with_reducible refine (HUN.out _).mono ?_); rintro e w2 ⟨Aq, nq, cq, rfl, ht2, b2, rw2⟩; have G2 := Lib.hid (GS.out.below (below_step B1.out b2)); have hnq := ht2.len; simp only [List.length_cons, List.length_nil, Nat.zero_add] at hnq; subst hnq; obtain ⟨gq, oq, csq, rfl, _, _, _⟩ := rw2 (by simp); have ck : w2.cell? ⟨gq, oq, none⟩ = some (.string cb) := (by rw [← HCB.out]; exact row_cell rw2); clear b2 ht2 rw2)))
                go_ret3
                exact GetEndL.no HE.out G2.out.be
              · have hsI : ¬ (cb.size : Int) < 2 := by omega
                by_cases ho2 : c.length % 2 = 1
                · have HE : Hid (R = ([], [], 11)) := Lib.hid (by
                    rw [← HF.out]
                    exact getLs_form (b := b) (by show (rdL _ x p, rdE _ x p) = _; rw [HRE.out, HRL.out]) HU.out (by right; right; right; exact ho2))
                  have hoI : ((cb.size : Int) % 2 == 1) = true := by rw [beq_iff_eq]; omega
                  clear hs2 ho2 hcs hcl
                  go_wp2_with (first
                    | (go_at_call 43; go_loud ((with_reducible refine HRD.out.mono ?_); rintro e w1 ⟨rfl, b1⟩; have B1 := Lib.hid b1; clear b1))
                    | (go_at_call 44; go_loud ((with_reducible refine (HUN.out _).mono ?_); rintro e w2 ⟨Aq, nq, cq, rfl, ht2, b2, rw2⟩; have G2 := Lib.hid (GS.out.below (below_step B1.out b2)); have hnq := ht2.len; simp only [List.length_cons, List.length_nil, Nat.zero_add] at hnq; subst hnq; obtain ⟨gq, oq, csq, rfl, _, _, _⟩ := rw2 (by simp); have ck : w2.cell? ⟨gq, oq, none⟩ = some (.string cb) := (by rw [← HCB.out]; exact row_cell rw2); clear b2 ht2 rw2)))
                  go_ret3
                  exact GetEndL.no HE.out G2.out.be
                · have hoI : ((cb.size : Int) % 2 == 1) = false := by rw [beq_eq_false_iff_ne]; omega
                  obtain ⟨m, hm⟩ : ∃ m, c.length = 2 * m + 2 := ⟨c.length / 2 - 1, by omega⟩
                  have hgp := gpL_one HU.out hm
                  have hgp2 : gpL (rdL (rgs gs) x p) (rdE (rgs gs) x p) = (numsL (c.drop 2), ((numOf (c.take 2) : Nat) : Int), 0) := by rw [HRE.out, HRL.out]; exact hgp
                  have hnl := numOf2_lt c
                  have HTN : Hid (∀ Q w1, RT w1 Q c 0 → Calls Tryd.prog 45 #[.pointer (some ⟨Q, 0, none⟩), .int .i64 2] w1 (RNumEnd Q w1 (numOf (c.take 2)) (c.drop 2) 0)) := Lib.hid (fun Q w1 h => by
                    have := rtNum_any Q c 0 2 w1 h (by omega)
                    have e : stN c 0 2 = (numOf (c.take 2), c.drop 2, 0) := by
                      unfold stN
                      rw [if_neg (by simp), if_neg (by decide), if_neg (by omega)]
                      rfl
                    rw [e] at this
                    exact this)
                  generalize numOf (c.take 2) = nx at *
                  have hcr : (c.drop 2).length = 2 * m := by rw [List.length_drop]; omega
                  generalize c.drop 2 = cr at *
                  have HGP2 := Lib.hid hgp2
                  have hpl : (numsL cr).length = m := numsL_len m cr hcr
                  have HPLN := Lib.hid hpl
                  have HCR := Lib.hid hcr
                  clear hgp hgp2 hcr hpl hs2 ho2
                  by_cases hL : 120 < c.length
                  · have HE : Hid (R = ([], [], 11)) := Lib.hid (by
                      rw [← HF.out]
                      exact getLs_num (rd := fun p => (rdL (rgs gs) x p, rdE (rgs gs) x p)) HGP2.out rfl (by unfold badNum; left; show 59 < (numsL cr).length; rw [HPLN.out]; omega))
                    have hLI : (120 : Int) < (cb.size : Int) := by omega
                    clear hL hcs hcl hm
                    go_wp2_with (first
                      | (go_at_call 43; go_loud ((with_reducible refine HRD.out.mono ?_); rintro e w1 ⟨rfl, b1⟩; have B1 := Lib.hid b1; clear b1))
                      | (go_at_call 44; go_loud ((with_reducible refine (HUN.out _).mono ?_); rintro e w2 ⟨Aq, nq, cq, rfl, ht2, b2, rw2⟩; have G2 := Lib.hid (GS.out.below (below_step B1.out b2)); have hnq := ht2.len; simp only [List.length_cons, List.length_nil, Nat.zero_add] at hnq; subst hnq; obtain ⟨gq, oq, csq, rfl, _, _, _⟩ := rw2 (by simp); have ck : w2.cell? ⟨gq, oq, none⟩ = some (.string cb) := (by rw [← HCB.out]; exact row_cell rw2); clear b2 ht2 rw2)))
                    go_ret3
                    exact GetEndL.no HE.out G2.out.be
                  · have hLI : ¬ (120 : Int) < (cb.size : Int) := by omega
                    by_cases hN : 2 < c.length ∧ l.length < 59 * a.length
                    · have HE : Hid (R = ([], [], 11)) := Lib.hid (by
                        rw [← HF.out]
                        exact getLs_num (rd := fun p => (rdL (rgs gs) x p, rdE (rgs gs) x p)) HGP2.out rfl (by unfold badNum; right; left; exact ⟨by show 0 < (numsL cr).length; rw [HPLN.out]; omega, hN.2⟩))
                      have hNI : (2 : Int) < (cb.size : Int) := by omega
                      have hNI2 : (l.length : Int) < 59 * (a.length : Int) := by omega
                      clear hL hcs hcl hm hN
                      go_wp2_with (first
                        | (go_at_call 43; go_loud ((with_reducible refine HRD.out.mono ?_); rintro e w1 ⟨rfl, b1⟩; have B1 := Lib.hid b1; clear b1))
                        | (go_at_call 44; go_loud ((with_reducible refine (HUN.out _).mono ?_); rintro e w2 ⟨Aq, nq, cq, rfl, ht2, b2, rw2⟩; have G2 := Lib.hid (GS.out.below (below_step B1.out b2)); have hnq := ht2.len; simp only [List.length_cons, List.length_nil, Nat.zero_add] at hnq; subst hnq; obtain ⟨gq, oq, csq, rfl, _, _, _⟩ := rw2 (by simp); have ck : w2.cell? ⟨gq, oq, none⟩ = some (.string cb) := (by rw [← HCB.out]; exact row_cell rw2); clear b2 ht2 rw2)))
                      go_ret3
                      exact GetEndL.no HE.out G2.out.be
                    · have HNN : Hid (okL (l ++ numsL cr) → ¬ badNum l a (numsL cr)) := Lib.hid (fun ho => by
                        unfold badNum
                        rw [HPLN.out]
                        rintro (h | h | h)
                        · omega
                        · exact hN ⟨by omega, h.2⟩
                        · exact h ho)
                      have hm59 : m ≤ 59 := by omega
                      have hnw : (nx : Int) ≤ 9223372036854775807 := by omega
                      have hnx0 : (0 : Int) ≤ (nx : Int) := by omega
                      have HL2 : Hid ((l ++ numsL cr).length ≤ 59 * (a ++ [p]).length) := Lib.hid (by rw [List.length_append, List.length_append, List.length_singleton, HPLN.out]; have := HLA.out; omega)
                      have HNS := Lib.hid (fun k (hk : k < m) => nums_step HCR.out hk)
                      have HTS := Lib.hid (fun Q c w1 (h : RT w1 Q c 0) (hc : c.length ≤ 1000) => rtNum_any Q c 0 2 w1 h (by omega))
                      by_cases hc3 : 2 < c.length
                      · have hNI : (2 : Int) < (cb.size : Int) := by omega
                        have hNI2 : ¬ (l.length : Int) < 59 * (a.length : Int) := fun h => hN ⟨hc3, by omega⟩
                        clear hL hcs hcl hm hN hc3
                        go_wp2_with (first
                          | (go_at_call 43; go_loud ((with_reducible refine HRD.out.mono ?_); rintro e w1 ⟨rfl, b1⟩; have B1 := Lib.hid b1; clear b1))
                          | (go_at_call 44; go_loud ((with_reducible refine (HUN.out _).mono ?_); rintro e w2 ⟨Aq, nq, cq, rfl, ht2, b2, rw2⟩; have G2 := Lib.hid (GS.out.below (below_step B1.out b2)); have hnq := ht2.len; simp only [List.length_cons, List.length_nil, Nat.zero_add] at hnq; subst hnq; obtain ⟨gq, oq, csq, rfl, _, _, _⟩ := rw2 (by simp); have ck : w2.cell? ⟨gq, oq, none⟩ = some (.string cb) := (by rw [← HCB.out]; exact row_cell rw2); clear b2 ht2 rw2))
                          | (go_at_call 45; go_loud (obtain ⟨w3, hw3⟩ : ∃ w3, w2.alloc (.cells #[.string cb, .int .i64 0] 98) = w3 := ⟨_, rfl⟩; (try rw [hw3]); have T3 : RT w3 w2.heap.size c 0 := (by rw [← hw3, ← HCB.out] at *; exact Has.made w2 98 _); have G3 := G2.out.below (hw3 ▸ (Below.refl _ w2).alloc (Nat.le_refl _) _); (with_reducible refine (HTN.out _ _ T3).mono ?_); rintro e w4 ⟨rfl, t4, g4⟩; have T4 := Lib.hid t4; have G4 := Lib.hid (G3.turn T3 G2.out.be.size g4); have HQ := Lib.hid (G2.out.be.size); clear t4 g4 G3 T3 hw3))
                          | (at_builtin; go_loud (refine wpList_append_own_at _ rfl _ _ 22 rfl w.heap.size 3 i0 (.int .i64 0) 1 8 Tryd.underlying22 hi hz0' hsz' hby rfl (by decide) _ a.length _ rfl (G4.out.oa.alloc _) ⟨w4.heap.size, 0, none⟩ 1 1 [.int .i64 p] rfl rfl (lies_one9 _ _ _) (by simp [Value.oneCell']) (by unfold maxLen; omega) (by omega) (Nat.le_trans G4.out.be.size (by simp)) ?_; intro v5 w5 h7 h8 hnil hat; clear hnil; obtain ⟨A5, c5, rfl, _, _⟩ := own_sliceI h7; have G5 := Lib.hid (G4.out.addA h7 h8 hat); have T5 := Lib.hid ((T4.out.below11 ((Below.refl _ w4).alloc (Nat.le_refl _) (.cells #[.int .i64 p] 3))).own (G4.out.oa.alloc _) h8); clear h7 h8 hat)))
                        have hQ2 := HQ.out
                        obtain ⟨Q, hQ⟩ : ∃ Q, w2.heap.size = Q := ⟨_, rfl⟩
                        rw [hQ] at T5 hQ2 ⊢
                        have HQ2 := Lib.hid hQ2
                        clear hQ hQ2 T4
                        have hl0 : l ++ numsL (cr.take (2 * 0)) = l := by simp [numsL]
                        have hl1 : cr.drop (2 * 0) = cr := by simp
                        have G50 : GrSt w w5 (.slice A9 l.length c9) (.slice A5 (a.length + 1) c5) (l ++ numsL (cr.take (2 * 0))) (a ++ [p]) := by rw [hl0]; exact G5.out
                        have T50 : RT w5 Q (cr.drop (2 * 0)) 0 := by rw [hl1]; exact T5.out
                        go_loopw [9] (fun v9 wq => ∃ k : Nat, k ≤ m ∧ GrSt w wq v9 (.slice A5 (a.length + 1) c5) (l ++ numsL (cr.take (2 * k))) (a ++ [p]) ∧ RT wq Q (cr.drop (2 * k)) 0) (fun v9 _ => l.length + m - lenV v9)
                        case atStart => exact ⟨0, Nat.zero_le _, G50, T50⟩
                        case round =>
                          clear G50 T50 G5 T5 hl0 hl1 ck
                          obtain ⟨k, hk, hgk, htk⟩ := hrel
                          have GK := Lib.hid hgk
                          have TK := Lib.hid htk
                          have hq0 := Has.cell0 (show Has wr Q 98 #[.string ⟨(cr.drop (2 * k)).toArray⟩, .int .i64 0] from htk)
                          have hlk : (l ++ numsL (cr.take (2 * k))).length = l.length + k := by rw [List.length_append, numsL_len k _ (by rw [List.length_take, HCR.out]; omega)]
                          obtain ⟨A8, c8, rfl, _, _, hI8⟩ := Ints6.of_own hgk.ol
                          have I8 := Lib.hid hI8
                          clear hgk htk hI8
                          by_cases hkm : k < m
                          · obtain ⟨s1, s2⟩ := HNS.out k hkm
                            have htn := HTS.out Q (cr.drop (2 * k)) wr TK.out (by rw [List.length_drop, HCR.out]; omega)
                            rw [s1] at htn
                            have hzl : numOf ((cr.drop (2 * k)).take 2) < 65536 := numOf2_lt _
                            obtain ⟨z, hz⟩ : ∃ z, numOf ((cr.drop (2 * k)).take 2) = z := ⟨_, rfl⟩
                            rw [hz] at htn s2 hzl
                            have HTN2 := Lib.hid htn
                            have HS2 : Hid (l ++ numsL (cr.take (2 * (k + 1))) = (l ++ numsL (cr.take (2 * k))) ++ [(z : Int)]) := Lib.hid (by rw [s2, List.append_assoc])
                            have hne0 : (⟨(cr.drop (2 * k)).toArray⟩ : ByteArray) ≠ ⟨#[]⟩ := fun e => by
                              have h1 := congrArg ByteArray.size e
                              rw [size_list, List.length_drop, HCR.out] at h1
                              have h2 : (⟨#[]⟩ : ByteArray).size = 0 := rfl
                              omega
                            have hne1 : (⟨(cr.drop (2 * k)).toArray⟩ : ByteArray).toList.isEmpty = false := by
                              rw [Go.ByteArray.toList_mk, List.isEmpty_eq_false_iff]
                              intro e
                              exact hne0 (by rw [e])
                            generalize (⟨(cr.drop (2 * k)).toArray⟩ : ByteArray) = sk at hq0 hne0 hne1
                            have hzw : (z : Int) ≤ 9223372036854775807 := by omega
                            obtain ⟨lk, hlkE⟩ : ∃ lk, l ++ numsL (cr.take (2 * k)) = lk := ⟨_, rfl⟩
                            rw [hlkE] at GK I8 HS2 hlk ⊢
                            have hlkb : lk.length ≤ 60000 := by omega
                            have HLKL := Lib.hid hlk
                            clear s1 s2 hz htn hlkE hlk
                            go_wp2_with (first
                              | (go_at_call 45; go_loud ((with_reducible refine HTN2.out.mono ?_); rintro e w6 ⟨rfl, t6, g6⟩; have T6 := Lib.hid t6; have G6 := Lib.hid (GK.out.turn TK.out HQ2.out g6); clear t6 g6))
                              | (at_builtin; go_loud (refine wpList_append_own_at _ rfl _ _ 22 rfl w.heap.size 3 i0 (.int .i64 0) 1 8 Tryd.underlying22 hi hz0' hsz' hby rfl (by decide) _ lk.length _ rfl (G6.out.ol.alloc _) ⟨w6.heap.size, 0, none⟩ 1 1 [.int .i64 (z : Int)] rfl rfl (lies_one9 _ _ _) (by simp [Value.oneCell']) (by unfold maxLen; omega) (by omega) (Nat.le_trans G6.out.be.size (by simp)) ?_; intro v7 w7 h7 h8 hnil hat; clear hnil; obtain ⟨A7, c7, rfl, _, _⟩ := own_sliceI h7; have G7 := Lib.hid (G6.out.addL h7 h8 hat); have T7 := Lib.hid ((T6.out.below11 ((Below.refl _ w6).alloc (Nat.le_refl _) (.cells #[.int .i64 (z : Int)] 3))).own (G6.out.ol.alloc _) h8); clear h7 h8 hat)))
                            go_roundw
                            case rel => exact ⟨k + 1, by omega, by rw [HS2.out]; exact G7.out, T7.out⟩
                            case measure => (have := HLKL.out); simp [lenV]; omega
                          · obtain rfl : k = m := by omega
                            have hfull : cr.take (2 * k) = cr := List.take_of_length_le (by rw [HCR.out]; exact Nat.le_refl _)
                            have hemp : (⟨(cr.drop (2 * k)).toArray⟩ : ByteArray) = ⟨#[]⟩ := by rw [List.drop_of_length_le (by rw [HCR.out]; exact Nat.le_refl _)]
                            rw [hemp] at hq0
                            rw [hfull] at GK I8 hlk
                            rw [hfull]
                            obtain ⟨l2, hl2⟩ : ∃ l2, l ++ numsL cr = l2 := ⟨_, rfl⟩
                            rw [hl2] at GK I8 hlk HNN HL2 ⊢
                            have HL2E := Lib.hid hl2
                            have hl2b : l2.length ≤ 60000 := by omega
                            clear hlk
                            have HLI := Lib.hid (HLS.out A8 l2.length c8 l2 wr I8.out (by omega))
                            have I5a := fun w1 (hb : Below wr.heap.size wr w1) => (own_ints (GK.out.below hb).oa).2
                            have HHI := Lib.hid (fun w1 (hb : Below wr.heap.size wr w1) => HHS.out A5 (a.length + 1) c5 (a ++ [p]) (nx : Int) w1 (I5a w1 hb) (by omega))
                            have HNP := Lib.hid (fun y => (List.mem_append (s := a) (t := [p]) (a := y)))
                            obtain ⟨wo, hwo⟩ : ∃ wo : World, wo = wr := ⟨_, rfl⟩
                            subst hwo
                            have HA5 : Hid ((a ++ [p]).length = a.length + 1) := Lib.hid (by simp)
                            clear hfull hemp hl2 hkm hk I5a
                            by_cases hol : okL l2
                            · rw [decide_eq_true hol] at HLI
                              have HNB := Lib.hid (HNN.out hol)
                              clear hol
                              by_cases hn0 : nx = 0
                              · subst hn0
                                have HE : Hid ((l2, a ++ [p], (0 : Int)) = R) := Lib.hid (by
                                  rw [← HF.out, ← HL2E.out]
                                  exact (getLs_last (rd := fun p => (rdL (rgs gs) x p, rdE (rgs gs) x p)) HGP2.out rfl HNB.out rfl).symm)
                                go_wp2_with (go_at_call 27; go_loud ((with_reducible refine HLI.out.mono ?_); rintro e w8 ⟨rfl, b8⟩; have G8 := Lib.hid (GK.out.below b8); clear b8))
                                go_roundw
                                case rel => exact ⟨f, 0, l2, a ++ [p], rfl, G8.out, by have := HA5.out; omega, Or.inl ⟨rfl, HE.out⟩⟩
                                case measure => simp [lenV]; omega
                              · have hn0b : ((nx : Int) != 0) = true := by simp; omega
                                have hn0I : (nx : Int) ≠ 0 := by omega
                                by_cases h2 : nx < 2
                                · have HE : Hid (R = ([], [], 11)) := Lib.hid (by
                                    rw [← HF.out]
                                    exact getLs_next (rd := fun p => (rdL (rgs gs) x p, rdE (rgs gs) x p)) HGP2.out rfl hn0I (Or.inl (by unfold pgOk; simp; omega)))
                                  have h2I : (nx : Int) < 2 := by omega
                                  clear h2 hn0
                                  go_wp2_with (go_at_call 27; go_loud ((with_reducible refine HLI.out.mono ?_); rintro e w8 ⟨rfl, b8⟩; have G8 := Lib.hid (GK.out.below b8); clear b8))
                                  go_ret3
                                  exact GetEndL.no HE.out G8.out.be
                                · have h2I : ¬ (nx : Int) < 2 := by omega
                                  by_cases h9 : 999 < nx
                                  · have HE : Hid (R = ([], [], 11)) := Lib.hid (by
                                      rw [← HF.out]
                                      exact getLs_next (rd := fun p => (rdL (rgs gs) x p, rdE (rgs gs) x p)) HGP2.out rfl hn0I (Or.inl (by unfold pgOk; simp; omega)))
                                    have h9I : (999 : Int) < (nx : Int) := by omega
                                    clear h2 hn0 h9
                                    go_wp2_with (go_at_call 27; go_loud ((with_reducible refine HLI.out.mono ?_); rintro e w8 ⟨rfl, b8⟩; have G8 := Lib.hid (GK.out.below b8); clear b8))
                                    go_ret3
                                    exact GetEndL.no HE.out G8.out.be
                                  · have h9I : ¬ (999 : Int) < (nx : Int) := by omega
                                    by_cases hmm : (nx : Int) ∈ a ++ [p]
                                    · have HE : Hid (R = ([], [], 11)) := Lib.hid (by
                                        rw [← HF.out]
                                        exact getLs_next (rd := fun p => (rdL (rgs gs) x p, rdE (rgs gs) x p)) HGP2.out rfl hn0I (Or.inr hmm))
                                      rw [decide_eq_true hmm] at HHI
                                      clear h2 hn0 h9 hmm
                                      go_wp2_with (first
                                        | (go_at_call 27; go_loud ((with_reducible refine HLI.out.mono ?_); rintro e w8 ⟨rfl, b8⟩; have G8 := Lib.hid (GK.out.below b8); have B8 := Lib.hid b8; clear b8))
                                        | (go_at_call 28; go_loud ((with_reducible refine (HHI.out _ B8.out).mono ?_); rintro e w9 ⟨rfl, rfl⟩)))
                                      go_ret3
                                      exact GetEndL.no HE.out G8.out.be
                                    · have hbad : ¬ badNx (a ++ [p]) (nx : Int) := by
                                        rintro (h | h)
                                        · unfold pgOk at h; simp at h; omega
                                        · exact hmm h
                                      have HE : Hid (getLs (fun p => (rdL (rgs gs) x p, rdE (rgs gs) x p)) f (nx : Int) l2 (a ++ [p]) = R) := Lib.hid (by
                                        rw [← HF.out, ← HL2E.out]
                                        exact (getLs_go (rd := fun p => (rdL (rgs gs) x p, rdE (rgs gs) x p)) HGP2.out rfl HNB.out hn0I hbad).symm)
                                      have HLF2 : Hid (leftP (a ++ [p]) < f) := Lib.hid (by have h1 := leftP_lt HPG.out.1 HPG.out.2 HPA.out; have h2 := HLF.out; omega)
                                      have HFA2 : Hid (f + (a ++ [p]).length = 1001) := Lib.hid (by rw [List.length_append, List.length_singleton]; have := HFA.out; omega)
                                      have HNA := Lib.hid hmm
                                      have HN0 := Lib.hid hn0I
                                      rw [decide_eq_false hmm] at HHI
                                      clear h2 hn0 h9 hmm hbad
                                      go_wp2_with (first
                                        | (go_at_call 27; go_loud ((with_reducible refine HLI.out.mono ?_); rintro e w8 ⟨rfl, b8⟩; have G8 := Lib.hid (GK.out.below b8); have B8 := Lib.hid b8; clear b8))
                                        | (go_at_call 28; go_loud ((with_reducible refine (HHI.out _ B8.out).mono ?_); rintro e w9 ⟨rfl, rfl⟩)))
                                      go_roundw
                                      case rel => exact ⟨f, (nx : Int), l2, a ++ [p], rfl, G8.out, by have := HA5.out; omega, Or.inr ⟨HN0.out, HE.out, HLF2.out, HFA2.out, HNA.out, HL2.out⟩⟩
                                      case measure => simp [lenV]; omega
                            · rw [decide_eq_false hol] at HLI
                              have HE : Hid (R = ([], [], 11)) := Lib.hid (by
                                rw [← HF.out]
                                exact getLs_num (rd := fun p => (rdL (rgs gs) x p, rdE (rgs gs) x p)) HGP2.out rfl (Or.inr (Or.inr (by show ¬ okL (l ++ numsL cr); rw [HL2E.out]; exact hol))))
                              clear hol
                              go_wp2_with (go_at_call 27; go_loud ((with_reducible refine HLI.out.mono ?_); rintro e w8 ⟨rfl, b8⟩; have G8 := Lib.hid (GK.out.below b8); clear b8))
                              go_ret3
                              exact GetEndL.no HE.out G8.out.be
                      · have hNI : ¬ (2 : Int) < (cb.size : Int) := by omega
                        clear hL hcs hcl hm hN hc3
                        go_wp2_with (first
                          | (go_at_call 43; go_loud ((with_reducible refine HRD.out.mono ?_); rintro e w1 ⟨rfl, b1⟩; have B1 := Lib.hid b1; clear b1))
                          | (go_at_call 44; go_loud ((with_reducible refine (HUN.out _).mono ?_); rintro e w2 ⟨Aq, nq, cq, rfl, ht2, b2, rw2⟩; have G2 := Lib.hid (GS.out.below (below_step B1.out b2)); have hnq := ht2.len; simp only [List.length_cons, List.length_nil, Nat.zero_add] at hnq; subst hnq; obtain ⟨gq, oq, csq, rfl, _, _, _⟩ := rw2 (by simp); have ck : w2.cell? ⟨gq, oq, none⟩ = some (.string cb) := (by rw [← HCB.out]; exact row_cell rw2); clear b2 ht2 rw2))
                          | (go_at_call 45; go_loud (obtain ⟨w3, hw3⟩ : ∃ w3, w2.alloc (.cells #[.string cb, .int .i64 0] 98) = w3 := ⟨_, rfl⟩; (try rw [hw3]); have T3 : RT w3 w2.heap.size c 0 := (by rw [← hw3, ← HCB.out] at *; exact Has.made w2 98 _); have G3 := G2.out.below (hw3 ▸ (Below.refl _ w2).alloc (Nat.le_refl _) _); (with_reducible refine (HTN.out _ _ T3).mono ?_); rintro e w4 ⟨rfl, t4, g4⟩; have T4 := Lib.hid t4; have G4 := Lib.hid (G3.turn T3 G2.out.be.size g4); have HQ := Lib.hid (G2.out.be.size); clear t4 g4 G3 T3 hw3))
                          | (at_builtin; go_loud (refine wpList_append_own_at _ rfl _ _ 22 rfl w.heap.size 3 i0 (.int .i64 0) 1 8 Tryd.underlying22 hi hz0' hsz' hby rfl (by decide) _ a.length _ rfl (G4.out.oa.alloc _) ⟨w4.heap.size, 0, none⟩ 1 1 [.int .i64 p] rfl rfl (lies_one9 _ _ _) (by simp [Value.oneCell']) (by unfold maxLen; omega) (by omega) (Nat.le_trans G4.out.be.size (by simp)) ?_; intro v5 w5 h7 h8 hnil hat; clear hnil; obtain ⟨A5, c5, rfl, _, _⟩ := own_sliceI h7; have G5 := Lib.hid (G4.out.addA h7 h8 hat); have T5 := Lib.hid ((T4.out.below11 ((Below.refl _ w4).alloc (Nat.le_refl _) (.cells #[.int .i64 p] 3))).own (G4.out.oa.alloc _) h8); clear h7 h8 hat)))
                        have hQ2 := HQ.out
                        obtain ⟨Q, hQ⟩ : ∃ Q, w2.heap.size = Q := ⟨_, rfl⟩
                        rw [hQ] at T5 hQ2 ⊢
                        have HQ2 := Lib.hid hQ2
                        clear hQ hQ2 T4
                        have hl0 : l ++ numsL (cr.take (2 * 0)) = l := by simp [numsL]
                        have hl1 : cr.drop (2 * 0) = cr := by simp
                        have G50 : GrSt w w5 (.slice A9 l.length c9) (.slice A5 (a.length + 1) c5) (l ++ numsL (cr.take (2 * 0))) (a ++ [p]) := by rw [hl0]; exact G5.out
                        have T50 : RT w5 Q (cr.drop (2 * 0)) 0 := by rw [hl1]; exact T5.out
                        go_loopw [9] (fun v9 wq => ∃ k : Nat, k ≤ m ∧ GrSt w wq v9 (.slice A5 (a.length + 1) c5) (l ++ numsL (cr.take (2 * k))) (a ++ [p]) ∧ RT wq Q (cr.drop (2 * k)) 0) (fun v9 _ => l.length + m - lenV v9)
                        case atStart => exact ⟨0, Nat.zero_le _, G50, T50⟩
                        case round =>
                          clear G50 T50 G5 T5 hl0 hl1 ck
                          obtain ⟨k, hk, hgk, htk⟩ := hrel
                          have GK := Lib.hid hgk
                          have TK := Lib.hid htk
                          have hq0 := Has.cell0 (show Has wr Q 98 #[.string ⟨(cr.drop (2 * k)).toArray⟩, .int .i64 0] from htk)
                          have hlk : (l ++ numsL (cr.take (2 * k))).length = l.length + k := by rw [List.length_append, numsL_len k _ (by rw [List.length_take, HCR.out]; omega)]
                          obtain ⟨A8, c8, rfl, _, _, hI8⟩ := Ints6.of_own hgk.ol
                          have I8 := Lib.hid hI8
                          clear hgk htk hI8
                          by_cases hkm : k < m
                          · obtain ⟨s1, s2⟩ := HNS.out k hkm
                            have htn := HTS.out Q (cr.drop (2 * k)) wr TK.out (by rw [List.length_drop, HCR.out]; omega)
                            rw [s1] at htn
                            have hzl : numOf ((cr.drop (2 * k)).take 2) < 65536 := numOf2_lt _
                            obtain ⟨z, hz⟩ : ∃ z, numOf ((cr.drop (2 * k)).take 2) = z := ⟨_, rfl⟩
                            rw [hz] at htn s2 hzl
                            have HTN2 := Lib.hid htn
                            have HS2 : Hid (l ++ numsL (cr.take (2 * (k + 1))) = (l ++ numsL (cr.take (2 * k))) ++ [(z : Int)]) := Lib.hid (by rw [s2, List.append_assoc])
                            have hne0 : (⟨(cr.drop (2 * k)).toArray⟩ : ByteArray) ≠ ⟨#[]⟩ := fun e => by
                              have h1 := congrArg ByteArray.size e
                              rw [size_list, List.length_drop, HCR.out] at h1
                              have h2 : (⟨#[]⟩ : ByteArray).size = 0 := rfl
                              omega
                            have hne1 : (⟨(cr.drop (2 * k)).toArray⟩ : ByteArray).toList.isEmpty = false := by
                              rw [Go.ByteArray.toList_mk, List.isEmpty_eq_false_iff]
                              intro e
                              exact hne0 (by rw [e])
                            generalize (⟨(cr.drop (2 * k)).toArray⟩ : ByteArray) = sk at hq0 hne0 hne1
                            have hzw : (z : Int) ≤ 9223372036854775807 := by omega
                            obtain ⟨lk, hlkE⟩ : ∃ lk, l ++ numsL (cr.take (2 * k)) = lk := ⟨_, rfl⟩
                            rw [hlkE] at GK I8 HS2 hlk ⊢
                            have hlkb : lk.length ≤ 60000 := by omega
                            have HLKL := Lib.hid hlk
                            clear s1 s2 hz htn hlkE hlk
                            go_wp2_with (first
                              | (go_at_call 45; go_loud ((with_reducible refine HTN2.out.mono ?_); rintro e w6 ⟨rfl, t6, g6⟩; have T6 := Lib.hid t6; have G6 := Lib.hid (GK.out.turn TK.out HQ2.out g6); clear t6 g6))
                              | (at_builtin; go_loud (refine wpList_append_own_at _ rfl _ _ 22 rfl w.heap.size 3 i0 (.int .i64 0) 1 8 Tryd.underlying22 hi hz0' hsz' hby rfl (by decide) _ lk.length _ rfl (G6.out.ol.alloc _) ⟨w6.heap.size, 0, none⟩ 1 1 [.int .i64 (z : Int)] rfl rfl (lies_one9 _ _ _) (by simp [Value.oneCell']) (by unfold maxLen; omega) (by omega) (Nat.le_trans G6.out.be.size (by simp)) ?_; intro v7 w7 h7 h8 hnil hat; clear hnil; obtain ⟨A7, c7, rfl, _, _⟩ := own_sliceI h7; have G7 := Lib.hid (G6.out.addL h7 h8 hat); have T7 := Lib.hid ((T6.out.below11 ((Below.refl _ w6).alloc (Nat.le_refl _) (.cells #[.int .i64 (z : Int)] 3))).own (G6.out.ol.alloc _) h8); clear h7 h8 hat)))
                            go_roundw
                            case rel => exact ⟨k + 1, by omega, by rw [HS2.out]; exact G7.out, T7.out⟩
                            case measure => (have := HLKL.out); simp [lenV]; omega
                          · obtain rfl : k = m := by omega
                            have hfull : cr.take (2 * k) = cr := List.take_of_length_le (by rw [HCR.out]; exact Nat.le_refl _)
                            have hemp : (⟨(cr.drop (2 * k)).toArray⟩ : ByteArray) = ⟨#[]⟩ := by rw [List.drop_of_length_le (by rw [HCR.out]; exact Nat.le_refl _)]
                            rw [hemp] at hq0
                            rw [hfull] at GK I8 hlk
                            rw [hfull]
                            obtain ⟨l2, hl2⟩ : ∃ l2, l ++ numsL cr = l2 := ⟨_, rfl⟩
                            rw [hl2] at GK I8 hlk HNN HL2 ⊢
                            have HL2E := Lib.hid hl2
                            have hl2b : l2.length ≤ 60000 := by omega
                            clear hlk
                            have HLI := Lib.hid (HLS.out A8 l2.length c8 l2 wr I8.out (by omega))
                            have I5a := fun w1 (hb : Below wr.heap.size wr w1) => (own_ints (GK.out.below hb).oa).2
                            have HHI := Lib.hid (fun w1 (hb : Below wr.heap.size wr w1) => HHS.out A5 (a.length + 1) c5 (a ++ [p]) (nx : Int) w1 (I5a w1 hb) (by omega))
                            have HNP := Lib.hid (fun y => (List.mem_append (s := a) (t := [p]) (a := y)))
                            obtain ⟨wo, hwo⟩ : ∃ wo : World, wo = wr := ⟨_, rfl⟩
                            subst hwo
                            have HA5 : Hid ((a ++ [p]).length = a.length + 1) := Lib.hid (by simp)
                            clear hfull hemp hl2 hkm hk I5a
                            by_cases hol : okL l2
                            · rw [decide_eq_true hol] at HLI
                              have HNB := Lib.hid (HNN.out hol)
                              clear hol
                              by_cases hn0 : nx = 0
                              · subst hn0
                                have HE : Hid ((l2, a ++ [p], (0 : Int)) = R) := Lib.hid (by
                                  rw [← HF.out, ← HL2E.out]
                                  exact (getLs_last (rd := fun p => (rdL (rgs gs) x p, rdE (rgs gs) x p)) HGP2.out rfl HNB.out rfl).symm)
                                go_wp2_with (go_at_call 27; go_loud ((with_reducible refine HLI.out.mono ?_); rintro e w8 ⟨rfl, b8⟩; have G8 := Lib.hid (GK.out.below b8); clear b8))
                                go_roundw
                                case rel => exact ⟨f, 0, l2, a ++ [p], rfl, G8.out, by have := HA5.out; omega, Or.inl ⟨rfl, HE.out⟩⟩
                                case measure => simp [lenV]; omega
                              · have hn0b : ((nx : Int) != 0) = true := by simp; omega
                                have hn0I : (nx : Int) ≠ 0 := by omega
                                by_cases h2 : nx < 2
                                · have HE : Hid (R = ([], [], 11)) := Lib.hid (by
                                    rw [← HF.out]
                                    exact getLs_next (rd := fun p => (rdL (rgs gs) x p, rdE (rgs gs) x p)) HGP2.out rfl hn0I (Or.inl (by unfold pgOk; simp; omega)))
                                  have h2I : (nx : Int) < 2 := by omega
                                  clear h2 hn0
                                  go_wp2_with (go_at_call 27; go_loud ((with_reducible refine HLI.out.mono ?_); rintro e w8 ⟨rfl, b8⟩; have G8 := Lib.hid (GK.out.below b8); clear b8))
                                  go_ret3
                                  exact GetEndL.no HE.out G8.out.be
                                · have h2I : ¬ (nx : Int) < 2 := by omega
                                  by_cases h9 : 999 < nx
                                  · have HE : Hid (R = ([], [], 11)) := Lib.hid (by
                                      rw [← HF.out]
                                      exact getLs_next (rd := fun p => (rdL (rgs gs) x p, rdE (rgs gs) x p)) HGP2.out rfl hn0I (Or.inl (by unfold pgOk; simp; omega)))
                                    have h9I : (999 : Int) < (nx : Int) := by omega
                                    clear h2 hn0 h9
                                    go_wp2_with (go_at_call 27; go_loud ((with_reducible refine HLI.out.mono ?_); rintro e w8 ⟨rfl, b8⟩; have G8 := Lib.hid (GK.out.below b8); clear b8))
                                    go_ret3
                                    exact GetEndL.no HE.out G8.out.be
                                  · have h9I : ¬ (999 : Int) < (nx : Int) := by omega
                                    by_cases hmm : (nx : Int) ∈ a ++ [p]
                                    · have HE : Hid (R = ([], [], 11)) := Lib.hid (by
                                        rw [← HF.out]
                                        exact getLs_next (rd := fun p => (rdL (rgs gs) x p, rdE (rgs gs) x p)) HGP2.out rfl hn0I (Or.inr hmm))
                                      rw [decide_eq_true hmm] at HHI
                                      clear h2 hn0 h9 hmm
                                      go_wp2_with (first
                                        | (go_at_call 27; go_loud ((with_reducible refine HLI.out.mono ?_); rintro e w8 ⟨rfl, b8⟩; have G8 := Lib.hid (GK.out.below b8); have B8 := Lib.hid b8; clear b8))
                                        | (go_at_call 28; go_loud ((with_reducible refine (HHI.out _ B8.out).mono ?_); rintro e w9 ⟨rfl, rfl⟩)))
                                      go_ret3
                                      exact GetEndL.no HE.out G8.out.be
                                    · have hbad : ¬ badNx (a ++ [p]) (nx : Int) := by
                                        rintro (h | h)
                                        · unfold pgOk at h; simp at h; omega
                                        · exact hmm h
                                      have HE : Hid (getLs (fun p => (rdL (rgs gs) x p, rdE (rgs gs) x p)) f (nx : Int) l2 (a ++ [p]) = R) := Lib.hid (by
                                        rw [← HF.out, ← HL2E.out]
                                        exact (getLs_go (rd := fun p => (rdL (rgs gs) x p, rdE (rgs gs) x p)) HGP2.out rfl HNB.out hn0I hbad).symm)
                                      have HLF2 : Hid (leftP (a ++ [p]) < f) := Lib.hid (by have h1 := leftP_lt HPG.out.1 HPG.out.2 HPA.out; have h2 := HLF.out; omega)
                                      have HFA2 : Hid (f + (a ++ [p]).length = 1001) := Lib.hid (by rw [List.length_append, List.length_singleton]; have := HFA.out; omega)
                                      have HNA := Lib.hid hmm
                                      have HN0 := Lib.hid hn0I
                                      rw [decide_eq_false hmm] at HHI
                                      clear h2 hn0 h9 hmm hbad
                                      go_wp2_with (first
                                        | (go_at_call 27; go_loud ((with_reducible refine HLI.out.mono ?_); rintro e w8 ⟨rfl, b8⟩; have G8 := Lib.hid (GK.out.below b8); have B8 := Lib.hid b8; clear b8))
                                        | (go_at_call 28; go_loud ((with_reducible refine (HHI.out _ B8.out).mono ?_); rintro e w9 ⟨rfl, rfl⟩)))
                                      go_roundw
                                      case rel => exact ⟨f, (nx : Int), l2, a ++ [p], rfl, G8.out, by have := HA5.out; omega, Or.inr ⟨HN0.out, HE.out, HLF2.out, HFA2.out, HNA.out, HL2.out⟩⟩
                                      case measure => simp [lenV]; omega
                            · rw [decide_eq_false hol] at HLI
                              have HE : Hid (R = ([], [], 11)) := Lib.hid (by
                                rw [← HF.out]
                                exact getLs_num (rd := fun p => (rdL (rgs gs) x p, rdE (rgs gs) x p)) HGP2.out rfl (Or.inr (Or.inr (by show ¬ okL (l ++ numsL cr); rw [HL2E.out]; exact hol))))
                              clear hol
                              go_wp2_with (go_at_call 27; go_loud ((with_reducible refine HLI.out.mono ?_); rintro e w8 ⟨rfl, b8⟩; have G8 := Lib.hid (GK.out.below b8); clear b8))
                              go_ret3
                              exact GetEndL.no HE.out G8.out.be
            · have HE : Hid (R = ([], [], 11)) := Lib.hid (by
                rw [← HF.out]
                exact getLs_form (b := b) (by show (rdL _ x p, rdE _ x p) = _; rw [HRE.out, HRL.out]) HU.out (by right; left; exact hc1))
              go_wp2_with (first
                | (go_at_call 43; go_loud ((with_reducible refine HRD.out.mono ?_); rintro e w1 ⟨rfl, b1⟩; have B1 := Lib.hid b1; clear b1))
                | (go_at_call 44; go_loud ((with_reducible refine (HUN.out _).mono ?_); rintro e w2 ⟨Aq, nq, cq, rfl, ht2, b2, rw2⟩; have G2 := Lib.hid (GS.out.below (below_step B1.out b2)); have hne : ((nq : Int) != 1) = true := (by have : nq = cs.length := ht2.len; simp only [bne_iff_ne, ne_eq]; omega); clear b2 ht2 rw2)))
              go_ret3
              exact GetEndL.no HE.out G2.out.be
          · have HE : Hid (R = ([], [], 11)) := Lib.hid (by
              rw [← HF.out]
              exact getLs_form (b := b) (by show (rdL _ x p, rdE _ x p) = _; rw [HRE.out, HRL.out]) HU.out (by left; exact hk))
            have hne : ((kd.toNat : Int) != 4) = true := by
              simp only [bne_iff_ne, ne_eq]
              exact fun e => hk (UInt8.toNat_inj.1 (by rw [show kd.toNat = 4 by omega]; rfl))
            go_wp2_with (first
              | (go_at_call 43; go_loud ((with_reducible refine HRD.out.mono ?_); rintro e w1 ⟨rfl, b1⟩; have B1 := Lib.hid b1; clear b1))
              | (go_at_call 44; go_loud ((with_reducible refine (HUN.out _).mono ?_); rintro e w2 ⟨Aq, nq, cq, rfl, ht2, b2, rw2⟩; have G2 := Lib.hid (GS.out.below (below_step B1.out b2)); skip; clear b2 ht2 rw2)))
            go_ret3
            exact GetEndL.no HE.out G2.out.be
        · have HE : Hid (R = ([], [], e2)) := Lib.hid (by
            rw [← HF.out]
            exact getLs_unp (b := b) (by show (rdL _ x p, rdE _ x p) = _; rw [HRE.out, HRL.out]) HU.out he2)
          have hne : (e2 != 0) = true := by simpa using he2
          clear he2
          go_wp2_with (first
            | (go_at_call 43; go_loud ((with_reducible refine HRD.out.mono ?_); rintro e w1 ⟨rfl, b1⟩; have B1 := Lib.hid b1; clear b1))
            | (go_at_call 44; go_loud ((with_reducible refine (HUN.out _).mono ?_); rintro e w2 ⟨Aq, nq, cq, rfl, ht2, b2, rw2⟩; have G2 := Lib.hid (GS.out.below (below_step B1.out b2)); skip; clear b2 ht2 rw2)))
          go_ret3
          exact GetEndL.no HE.out G2.out.be
      · have hne : (er != 0) = true := by simpa using he
        have HE : Hid (R = ([], [], er)) := Lib.hid (by
          rw [← HF.out]
          exact getLs_read (b := b) (by show (rdL _ x p, rdE _ x p) = _; rw [HRE.out, HRL.out]) he)
        clear he
        generalize (⟨b.toArray⟩ : ByteArray) = bb at HRD
        go_wp2_with (go_at_call 43; go_loud ((with_reducible refine HRD.out.mono ?_); rintro e w1 ⟨rfl, b1⟩; have G2 := Lib.hid (GS.out.below b1); clear b1))
        go_ret3
        exact GetEndL.no HE.out G2.out.be
end
end Go.Proofs.YthcjledpjlpfaaaDoor
