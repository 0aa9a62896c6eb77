import Derived.Test.YthcjledpjlpfaaaDoorJ13
import Derived.Test.YthcjledpjlpfaaaDoorJ10
import Derived.Test.YthcjledpjlpfaaaDoorJ09
/- Of a claim's texts, joined: Fls. No statement but in the last. -/
namespace Go.Proofs.YthcjledpjlpfaaaDoor
open Go.RowKit
set_option linter.unusedVariables false

def GpEndL (r : List Int × Int × Int) (w : World) (e : Ending) (w' : World) : Prop := ∃ A n c, e = .returned (.tuple #[.slice A n c, .int .i64 r.2.1, .int .i64 r.2.2]) ∧ w'.ownsRow w.heap.size 3 1 (.slice A n c) n (r.1.map (Value.int .i64)) ∧ Below w.heap.size w w'
theorem ne_Tk {w : World} {B s n base P : Nat} {v : Value} {xs : List Value} {l : List UInt8} {er : Int} (ho : w.ownsRow B 3 s v n xs) (h : Tk w base P l er) : v.ownBlock ≠ some P := fun hq => by
  obtain ⟨A, c, hP, _⟩ := h
  rcases ho.2 with ⟨rfl, _⟩ | ⟨g, cap, cur, rfl, _, hc, _⟩
  · cases hq
  · obtain rfl : g = P := by injection hq
    exact Has.apart (show Has w g 3 cur from hc) hP (by decide) rfl
theorem Tk.own {w w' : World} {B s n base P : Nat} {v : Value} {xs : List Value} {l : List UInt8} {er : Int} (h : Tk w base P l er) (ho : w.ownsRow B 3 s v n xs) (hg : w.grownBy w' v.ownBlock) : Tk w' base P l er := by
  have hne := ne_Tk ho h
  obtain ⟨A, c, hP, hb, hR, h1, h2⟩ := h
  exact ⟨A, c, hP.grown hg (fun e => hne e.symm), hb, hR.kept_own ho (by decide) hg, h1, h2⟩
theorem Tk.below11 {w w' : World} {base P : Nat} {l : List UInt8} {er : Int} (h : Tk w base P l er) (hb : Below w.heap.size w w') : Tk w' base P l er := by
  obtain ⟨A, c, hP, hb1, hR, h1, h2⟩ := h
  exact ⟨A, c, hP.below hb hP.lt, hb1, hR.below hb, h1, h2⟩
theorem beq0_yes {n : Nat} (h : n = 0) : ((n : Int) == 0) = true := by rw [h]; rfl
theorem beq0_no {n : Nat} (h : n ≠ 0) : ((n : Int) == 0) = false := by
  rw [beq_eq_false_iff_ne]
  omega
theorem rem2_yes {n : Nat} (h : n % 2 = 1) : ((n : Int) % 2 != 0) = true := by
  rw [bne_iff_ne]
  omega
theorem rem2_no {n : Nat} (h : n % 2 = 0) : ((n : Int) % 2 != 0) = false := by
  rw [bne_eq_false_iff_eq]
  omega
theorem unpN_len11 {b : List UInt8} (h : (unpN b).2.2 = 0) : ∀ c ∈ (unpN b).2.1, c.length ≤ 128 := by
  by_cases hb : b.length = 128
  · by_cases ht : isTag b
    · by_cases hf : cForm b
      · rw [unpN_yes hb ht hf]
        exact cut_short b hb
      · rw [unpN_no hb ht hf] at h
        exact absurd h (by decide)
    · unfold unpN at h
      rw [if_neg (by rw [hb]; simp), if_pos ht] at h
      exact absurd h (by decide)
  · unfold unpN at h
    rw [if_pos hb] at h
    exact absurd h (by decide)
theorem nums_step {cr : List UInt8} {m k : Nat} (hl : cr.length = 2 * m) (hk : k < m) : stN (cr.drop (2 * k)) 0 2 = (numOf ((cr.drop (2 * k)).take 2), cr.drop (2 * (k + 1)), 0) ∧ numsL (cr.take (2 * (k + 1))) = numsL (cr.take (2 * k)) ++ [((numOf ((cr.drop (2 * k)).take 2) : Nat) : Int)] := by
  constructor
  · unfold stN
    rw [if_neg (by simp), if_neg (by decide), if_neg (by rw [List.length_drop]; omega)]
    simp only [show (2 : Int).toNat = 2 from rfl, List.drop_drop]
    rw [show 2 * k + 2 = 2 * (k + 1) by omega]
  · rw [show 2 * (k + 1) = 2 * k + 2 by omega, List.take_add, numsL_snoc k _ _ (by rw [List.length_take]; omega) (by rw [List.length_take, List.length_drop]; omega)]
section
variable {w : World} {T : Tg} {d D A : Nat} {rs : List Rg}
set_option maxRecDepth 100000 in
set_option maxHeartbeats 4000000 in
theorem fGetPart_any (x p : Int) (ht : Tab w) (h : Dk w T d D A rs) :
    Calls Tryd.prog 40 #[.pointer (some ⟨D, 0, none⟩), .int .i64 x, .int .i64 p] w (GpEndL (gpL (rdL rs x p) (rdE rs x p)) w) := by
  have HRD := Lib.hid (Read_any x p h)
  have HT := Lib.hid ht
  generalize rdL rs x p = b at HRD ⊢
  generalize rdE rs x p = er at HRD ⊢
  clear h ht
  by_cases he : er = 0
  · subst he
    have HUN : Hid (∀ w1 A1, Tab w1 → Arg w1 A1 128 128 b → Calls Tryd.prog 54 #[.slice A1 128 128] w1 (UnpEnd (unpN b) w1)) := Lib.hid (fun w1 A1 ht h => ceUnpack_any A1 128 128 b w1 ht h)
    obtain ⟨⟨kd, cs, e2⟩, hu⟩ : ∃ u, unpN b = u := ⟨_, rfl⟩
    have hkb : (0 : Int) ≤ (kd.toNat : Int) := by omega
    rw [hu] at HUN
    by_cases he2 : e2 = 0
    · subst he2
      by_cases hk : kd = 4
      · subst hk
        by_cases hc1 : cs.length = 1
        · obtain ⟨c, rfl⟩ : ∃ c, cs = [c] := by
            rcases cs with _ | ⟨c, _ | ⟨d, r⟩⟩
            · cases hc1
            · exact ⟨c, rfl⟩
            · simp at hc1
          have hcl : c.length ≤ 128 := unpN_len11 (b := b) (by rw [hu]) c (by rw [hu]; simp)
          by_cases hc0 : c.length = 0
          · have HG : Hid (gpL b 0 = ([], 0, 11)) := Lib.hid (by
              unfold gpL
              rw [if_neg (by simp), hu, if_neg (by simp), if_pos (by unfold badPg; rw [hu]; right; right; left; simp only [List.headD_cons]; omega)])
            rw [HG.out]
            have HZ := Lib.hid hc0
            clear hu hc1 hcl hc0
            go_enter Tryd.func40, Tryd.ntmps40
            go_wp2_with (first
              | (go_at_call 53; go_loud ((with_reducible refine HRD.out.mono ?_); rintro e w1 ⟨b1, h1 | h1⟩; exact absurd rfl h1.1; obtain ⟨_, g, rfl, hg1, hg2, hg3⟩ := h1; have R1 := Lib.hid (arg_content hg2 hg3); have B1 := Lib.hid b1; clear b1 hg2 hg3))
              | (go_at_call 54; go_loud ((with_reducible refine (HUN.out _ _ (HT.out.below B1.out) R1.out).mono ?_); rintro e w2 ⟨A2, n2, c2, q2, rfl, hq1, hq2, b2⟩; have B2 := Lib.hid (below_step B1.out b2); change lq q2 = [c] at hq2; obtain ⟨hd, rfl, hdl⟩ := lq_one hq2; obtain ⟨gq, oq, rfl, cq⟩ := hq1.at (k := 0) (by simp); have hql := hq1.len; simp only [List.length_cons, List.length_nil, Nat.zero_add, Nat.add_zero, List.getElem_cons_zero] at hql cq; subst hql; have A3 := Lib.hid (hq1.hdr (k := 0) (by simp)); have hdn : hd.n = c.length := (by have := A3.out.len; simp only [List.getElem_cons_zero] at this; rw [this, hdl]); simp only [List.getElem_cons_zero] at A3; obtain ⟨ha, hn, hc, hl⟩ := hd; simp only at hdn hdl cq A3; subst hdn; subst hdl; have hz0 : ((hl.length : Int) == 0) = true := beq0_yes HZ.out; clear b2)))
            go_ret3
            exact ⟨none, 0, 0, rfl, World.ownsRow_nil _ _ _ _, B2.out⟩
          · by_cases hc2 : c.length % 2 = 1
            · have HG : Hid (gpL b 0 = ([], 0, 11)) := Lib.hid (by
                unfold gpL
                rw [if_neg (by simp), hu, if_neg (by simp), if_pos (by unfold badPg; rw [hu]; right; right; right; simp only [List.headD_cons]; exact hc2)])
              rw [HG.out]
              have HZ := Lib.hid hc0
              have HO := Lib.hid hc2
              clear hu hc1 hc0 hc2
              go_enter Tryd.func40, Tryd.ntmps40
              go_wp2_with (first
                | (go_at_call 53; go_loud ((with_reducible refine HRD.out.mono ?_); rintro e w1 ⟨b1, h1 | h1⟩; exact absurd rfl h1.1; obtain ⟨_, g, rfl, hg1, hg2, hg3⟩ := h1; have R1 := Lib.hid (arg_content hg2 hg3); have B1 := Lib.hid b1; clear b1 hg2 hg3))
                | (go_at_call 54; go_loud ((with_reducible refine (HUN.out _ _ (HT.out.below B1.out) R1.out).mono ?_); rintro e w2 ⟨A2, n2, c2, q2, rfl, hq1, hq2, b2⟩; have B2 := Lib.hid (below_step B1.out b2); change lq q2 = [c] at hq2; obtain ⟨hd, rfl, hdl⟩ := lq_one hq2; obtain ⟨gq, oq, rfl, cq⟩ := hq1.at (k := 0) (by simp); have hql := hq1.len; simp only [List.length_cons, List.length_nil, Nat.zero_add, Nat.add_zero, List.getElem_cons_zero] at hql cq; subst hql; have A3 := Lib.hid (hq1.hdr (k := 0) (by simp)); have hdn : hd.n = c.length := (by have := A3.out.len; simp only [List.getElem_cons_zero] at this; rw [this, hdl]); simp only [List.getElem_cons_zero] at A3; obtain ⟨ha, hn, hc, hl⟩ := hd; simp only at hdn hdl cq A3; subst hdn; subst hdl; have hz0 : ((hl.length : Int) == 0) = false := beq0_no HZ.out; have hz1 : ((hl.length : Int) % 2 != 0) = true := rem2_yes HO.out; clear b2)))
              go_ret3
              exact ⟨none, 0, 0, rfl, World.ownsRow_nil _ _ _ _, B2.out⟩
            · obtain ⟨m, hm⟩ : ∃ m, c.length = 2 * m + 2 := ⟨c.length / 2 - 1, by omega⟩
              have HG : Hid (gpL b 0 = (numsL (c.drop 2), ((numOf (c.take 2) : Nat) : Int), 0)) := Lib.hid (by
                unfold gpL restL nextL
                rw [if_neg (by simp), hu, if_neg (by simp), if_neg (by unfold badPg; rw [hu]; simp only [List.headD_cons, List.length_singleton, ne_eq, not_true_eq_false, false_or, not_or]; omega)]
                rfl)
              rw [HG.out]
              have hnl := numOf2_lt c
              have HTK : Hid (∀ A n c2 w1, n = c.length → Reads w1 A (c.map byteV) → Calls Tryd.prog 55 #[.slice A n c2] w1 (Made w1.heap.size c w1)) := Lib.hid (fun A n c2 w1 e h => by subst e; exact Take_any A c2 c w1 (by omega) h)
              have HTN : Hid (∀ base P w1, Tk w1 base P c 0 → Calls Tryd.prog 56 #[.pointer (some ⟨P, 0, none⟩), .int .i64 2] w1 (NumEnd base P w1 (numOf (c.take 2)) (c.drop 2) 0)) := Lib.hid (fun base P w1 h => by
                have := tNum_any base P c 0 2 w1 h
                have e : stN c 0 2 = (numOf (c.take 2), c.drop 2, 0) := by
                  unfold stN
                  rw [if_neg (by simp), if_neg (by decide), if_neg (by omega)]
                  rfl
                rw [e] at this
                exact this)
              generalize numOf (c.take 2) = nx at *
              have hcr : (c.drop 2).length = 2 * m := by rw [List.length_drop]; omega
              have HCL := Lib.hid hm
              generalize c.drop 2 = cr at *
              have HNS := Lib.hid (fun k (hk : k < m) => nums_step hcr hk)
              have HTS := Lib.hid (fun base P l w1 (h : Tk w1 base P l 0) => tNum_any base P l 0 2 w1 h)
              have HCR := Lib.hid hcr
              have hnx : nx < 65536 := hnl
              have hnw : (nx : Int) ≤ 9223372036854775807 := by omega
              have hmb : m ≤ 63 := by omega
              obtain ⟨i0, hi, hq0, hq1', hq2'⟩ := info_parts int_info
              clear hu hc1 hc0 hc2 hcr hnl hm
              go_enter Tryd.func40, Tryd.ntmps40
              go_wp2_with (first
                | (go_at_call 53; go_loud ((with_reducible refine HRD.out.mono ?_); rintro e w1 ⟨b1, h1 | h1⟩; exact absurd rfl h1.1; obtain ⟨_, g, rfl, hg1, hg2, hg3⟩ := h1; have R1 := Lib.hid (arg_content hg2 hg3); have B1 := Lib.hid b1; clear b1 hg2 hg3))
                | (go_at_call 54; go_loud ((with_reducible refine (HUN.out _ _ (HT.out.below B1.out) R1.out).mono ?_); rintro e w2 ⟨A2, n2, c2, q2, rfl, hq1, hq2, b2⟩; have B2 := Lib.hid (below_step B1.out b2); change lq q2 = [c] at hq2; obtain ⟨hd, rfl, hdl⟩ := lq_one hq2; obtain ⟨gq, oq, rfl, cq⟩ := hq1.at (k := 0) (by simp); have hql := hq1.len; simp only [List.length_cons, List.length_nil, Nat.zero_add, Nat.add_zero, List.getElem_cons_zero] at hql cq; subst hql; have A3 := Lib.hid (hq1.hdr (k := 0) (by simp)); have hdn : hd.n = c.length := (by have := A3.out.len; simp only [List.getElem_cons_zero] at this; rw [this, hdl]); simp only [List.getElem_cons_zero] at A3; obtain ⟨ha, hn, hc, hl⟩ := hd; simp only at hdn hdl cq A3; subst hdn; subst hdl; have hz0 : ((hl.length : Int) == 0) = false := beq0_no (by have := HCL.out; omega); have hz1 : ((hl.length : Int) % 2 != 0) = false := rem2_no (by have := HCL.out; omega); clear b2))
                | (go_at_call 55; go_loud ((with_reducible refine (HTK.out _ _ _ _ rfl A3.out.reads).mono ?_); rintro e w3 ⟨P, rfl, t1, b3⟩; have T1 := Lib.hid t1; have B23 := Lib.hid b3; have HPb := Lib.hid (tk_base t1); clear t1 b3))
                | (go_at_call 56; go_loud ((with_reducible refine (HTN.out _ _ _ T1.out).mono ?_); rintro e w4 ⟨rfl, t2, g4⟩; have T2 := Lib.hid t2; have B24 := Lib.hid (B23.out.trans (below_only g4 HPb.out B23.out.size)); have cq4 := cell_below cq B24.out; clear t2 g4)))
              have B4 := Lib.hid (B2.out.trans (B24.out.mono B2.out.size))
              have hcq := cq4
              clear cq cq4 hq1 hq2 A3 hnw T1 B23 HTK HTN HUN
              go_loopw [15, 70] (fun v i wr => ∃ k : Nat, k ≤ m ∧ i = .int .i64 (k : Int) ∧ wr.ownsRow w4.heap.size 3 1 v k ((numsL (cr.take (2 * k))).map (Value.int .i64)) ∧ Tk wr w2.heap.size P (cr.drop (2 * k)) 0 ∧ Below w2.heap.size w2 wr ∧ w4.heap.size ≤ wr.heap.size) (fun _ i _ => m - (intOf i).toNat)
              case atStart => exact ⟨0, Nat.zero_le _, rfl, World.ownsRow_nil _ _ _ _, T2.out, B24.out, Nat.le_refl _⟩
              case round =>
                obtain ⟨k, hk, rfl, ho, htk, hb, hs4⟩ := hrel
                have HO := Lib.hid ho
                have HTk := Lib.hid htk
                have HB := Lib.hid hb
                clear ho htk hb
                by_cases hlt : k < m
                · obtain ⟨s1, s2⟩ := HNS.out k hlt
                  have htn := HTS.out w2.heap.size P (cr.drop (2 * k)) wr HTk.out
                  rw [s1] at htn
                  have hzl : numOf ((cr.drop (2 * k)).take 2) < 65536 := numOf2_lt _
                  obtain ⟨z, hz⟩ : ∃ z, numOf ((cr.drop (2 * k)).take 2) = z := ⟨_, rfl⟩
                  rw [hz] at htn s2 hzl
                  have HTN2 := Lib.hid htn
                  have HS2 := Lib.hid s2
                  have hltI : (k : Int) < (hl.length : Int) / 2 - 1 := by have := HCL.out; omega
                  have hzw : (z : Int) ≤ 9223372036854775807 := by omega
                  clear s1 s2 hz htn
                  go_wp2_with (first
                    | (go_at_call 56; go_loud ((with_reducible refine HTN2.out.mono ?_); rintro e w5 ⟨rfl, t5, g5⟩; have T5 := Lib.hid t5; have O5 := Lib.hid (HO.out.kept g5 (.inr (ne_Tk HO.out HTk.out))); have B5 := Lib.hid (HB.out.trans (below_only g5 HPb.out HB.out.size)); have hs5 : w4.heap.size ≤ w5.heap.size := Nat.le_trans hs4 g5.size; clear t5 g5))
                    | (at_builtin; go_loud (refine wpList_append_own _ rfl _ _ 22 rfl w4.heap.size 3 i0 (.int .i64 0) 1 8 Tryd.underlying22 hi hq0 hq1' hq2' rfl (by decide) _ k _ rfl (O5.out.alloc _) ⟨w5.heap.size, 0, none⟩ 1 1 [.int .i64 (z : Int)] rfl rfl (lies_one9 _ _ _) (by simp [Value.oneCell']) (by unfold maxLen; omega) (by omega) (Nat.le_trans hs5 (by simp)) ?_; intro v6 w6 h7 h8 hnil; clear hnil; have ho5 := O5.out.alloc (.cells #[.int .i64 (z : Int)] 3); have T6 := Lib.hid ((T5.out.below11 ((Below.refl _ w5).alloc (Nat.le_refl _) (.cells #[.int .i64 (z : Int)] 3))).own ho5 h8); have b6 : Below w2.heap.size w2 w6 := below_ownR (below_alloc' B5.out (.cells #[.int .i64 (z : Int)] 3)) h8 (own_low ho5 (Nat.le_trans B24.out.size (Nat.le_refl _))) (Nat.le_trans B5.out.size (by simp)); have B6 := Lib.hid b6; have hs6 : w4.heap.size ≤ w6.heap.size := Nat.le_trans (Nat.le_trans hs5 (by simp)) h8.size; have O6 := Lib.hid h7; clear ho5 b6 h7 h8)))
                  go_roundw
                  case rel => exact ⟨k + 1, by omega, by go_num, by rw [HS2.out, List.map_append]; exact O6.out, T6.out, B6.out, hs6⟩
                  case measure => simp [intOf]; omega
                · obtain rfl : k = m := by omega
                  have hltI : ¬ (k : Int) < (hl.length : Int) / 2 - 1 := by have := HCL.out; omega
                  have ho := HO.out
                  rw [List.take_of_length_le (by rw [HCR.out]; exact Nat.le_refl _)] at ho
                  obtain ⟨A8, c8, rfl, _, _⟩ := own_sliceI ho
                  have HO8 := Lib.hid (own_low ho B4.out.size)
                  have B8 := Lib.hid (B2.out.trans (HB.out.mono B2.out.size))
                  obtain ⟨w3, hw3⟩ : ∃ w3 : World, w3 = wr := ⟨_, rfl⟩
                  subst hw3
                  clear ho hnx
                  go_wp2
                  go_ret3
                  exact ⟨A8, k, c8, rfl, HO8.out, B8.out⟩
        · have HG : Hid (gpL b 0 = ([], 0, 11)) := Lib.hid (by
            unfold gpL
            rw [if_neg (by simp), hu, if_neg (by simp), if_pos (by unfold badPg; rw [hu]; right; left; exact hc1)])
          rw [HG.out]
          clear hu
          go_enter Tryd.func40, Tryd.ntmps40
          go_wp2_with (first
            | (go_at_call 53; go_loud ((with_reducible refine HRD.out.mono ?_); rintro e w1 ⟨b1, h1 | h1⟩; exact absurd rfl h1.1; obtain ⟨_, g, rfl, hg1, hg2, hg3⟩ := h1; have R1 := Lib.hid (arg_content hg2 hg3); have B1 := Lib.hid b1; clear b1 hg2 hg3))
            | (go_at_call 54; go_loud ((with_reducible refine (HUN.out _ _ (HT.out.below B1.out) R1.out).mono ?_); rintro e w2 ⟨A2, n2, c2, q2, rfl, hq1, hq2, b2⟩; have B2 := Lib.hid (below_step B1.out b2); change lq q2 = cs at hq2; have hne : ((n2 : Int) != 1) = true := (by have := congrArg List.length hq2; rw [lq_len, ← hq1.len] at this; simp only [bne_iff_ne, ne_eq]; omega); clear hq1 hq2; clear b2)))
          go_ret3
          exact ⟨none, 0, 0, rfl, World.ownsRow_nil _ _ _ _, B2.out⟩
      · have HG : Hid (gpL b 0 = ([], 0, 11)) := Lib.hid (by
          unfold gpL
          rw [if_neg (by simp), hu, if_neg (by simp), if_pos (by unfold badPg; rw [hu]; left; exact hk)])
        rw [HG.out]
        have hne : ((kd.toNat : Int) != 4) = true := by
          simp only [bne_iff_ne, ne_eq]
          exact fun e => hk (UInt8.toNat_inj.1 (by rw [show kd.toNat = 4 by omega]; rfl))
        clear hk hu
        go_enter Tryd.func40, Tryd.ntmps40
        go_wp2_with (first
          | (go_at_call 53; go_loud ((with_reducible refine HRD.out.mono ?_); rintro e w1 ⟨b1, h1 | h1⟩; exact absurd rfl h1.1; obtain ⟨_, g, rfl, hg1, hg2, hg3⟩ := h1; have R1 := Lib.hid (arg_content hg2 hg3); have B1 := Lib.hid b1; clear b1 hg2 hg3))
          | (go_at_call 54; go_loud ((with_reducible refine (HUN.out _ _ (HT.out.below B1.out) R1.out).mono ?_); rintro e w2 ⟨A2, n2, c2, q2, rfl, hq1, hq2, b2⟩; have B2 := Lib.hid (below_step B1.out b2); clear hq1 hq2; clear b2)))
        go_ret3
        exact ⟨none, 0, 0, rfl, World.ownsRow_nil _ _ _ _, B2.out⟩
    · have HG : Hid (gpL b 0 = ([], 0, e2)) := Lib.hid (by
        unfold gpL
        rw [if_neg (by simp), hu, if_pos he2])
      rw [HG.out]
      have hne : (e2 != 0) = true := by simpa using he2
      clear he2 hu
      go_enter Tryd.func40, Tryd.ntmps40
      go_wp2_with (first
        | (go_at_call 53; go_loud ((with_reducible refine HRD.out.mono ?_); rintro e w1 ⟨b1, h1 | h1⟩; exact absurd rfl h1.1; obtain ⟨_, g, rfl, hg1, hg2, hg3⟩ := h1; have R1 := Lib.hid (arg_content hg2 hg3); have B1 := Lib.hid b1; clear b1 hg2 hg3))
        | (go_at_call 54; go_loud ((with_reducible refine (HUN.out _ _ (HT.out.below B1.out) R1.out).mono ?_); rintro e w2 ⟨A2, n2, c2, q2, rfl, hq1, hq2, b2⟩; have B2 := Lib.hid (below_step B1.out b2); clear hq1 hq2; clear b2)))
      go_ret3
      exact ⟨none, 0, 0, rfl, World.ownsRow_nil _ _ _ _, B2.out⟩
  · have HG : Hid (gpL b er = ([], 0, er)) := Lib.hid (by unfold gpL; rw [if_pos he])
    rw [HG.out]
    have hne : (er != 0) = true := by simpa using he
    go_enter Tryd.func40, Tryd.ntmps40
    go_wp2_with (go_at_call 53; go_loud ((with_reducible refine HRD.out.mono ?_); rintro e w1 ⟨b1, h1 | h1⟩; obtain ⟨_, _, rfl⟩ := h1; have B1 := Lib.hid b1; clear b1; rotate_left; exact absurd h1.1 he))
    go_ret3
    exact ⟨none, 0, 0, rfl, World.ownsRow_nil _ _ _ _, B1.out⟩
end

end Go.Proofs.YthcjledpjlpfaaaDoor
