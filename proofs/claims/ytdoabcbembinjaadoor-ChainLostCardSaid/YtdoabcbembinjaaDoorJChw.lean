import Derived.Test.YtdoabcbembinjaaDoorJ12
import Derived.Test.YtdoabcbembinjaaDoorJChs
import Derived.Test.YtdoabcbembinjaaDoorJReft
/- Of a claim's texts, joined: Chw. No statement but in the last. -/
namespace Go.Proofs.YtdoabcbembinjaaDoor
open Go.RowKit
set_option linter.unusedVariables false

theorem ne_T {w : World} {B s n Q : Nat} {v : Value} {xs : List Value} {l : List UInt8} {er : Int} (ho : w.ownsRow B 3 s v n xs) (h : RT w Q l er) : v.ownBlock ≠ some Q := fun hq => by
  rcases ho.2 with ⟨rfl, _⟩ | ⟨g, cap, cur, rfl, _, hc, _⟩
  · cases hq
  · obtain rfl : g = Q := by injection hq
    exact Has.apart (show Has w g 3 cur from hc) (show Has w g 100 _ from h) (by decide) rfl
theorem row_cell {w : World} {t : TypeId} {lo g off : Nat} {u : Value} {xs : List Value} (h : Row w t lo (some ⟨g, off, none⟩) (u :: xs)) : w.cell? ⟨g, off, none⟩ = some u := by
  obtain ⟨g', off', cs, e, _, hh, hc⟩ := h (by simp)
  injection e with e
  injection e with e1 e2 _
  subst e1 e2
  rw [hh.cell]
  exact hc 0 u rfl
theorem rdL_len {w : World} {T : Tg} {A : Option Addr} {n c : Nat} {gs : List Gx} (h : GA w T A n c gs) (x p : Int) : (rdL (rgs gs) x p).length ≤ 128 := by
  unfold rdL
  cases hr : regN (rgs gs) x with
  | none => simp
  | some r =>
    simp only
    obtain ⟨k, g, _, hg, rfl, _⟩ := regN_gs hr
    split
    · simp
    · split
      · rw [rdP_len (h.reg hg).ok]
        exact Nat.le_refl _
      · simp
section
variable {w : World} {T : Tg} {A : Option Addr} {n0 c0 : Nat} {gs : List Gx}
theorem r9Get_no (x p z : Int) (hz : lgB z = false) : Calls Tryd.prog 19 #[.slice A n0 c0, .int .i64 x, .int .i64 p, .int .i64 z] w (GetEnd (getC (fun p => (rdL (rgs gs) x p, rdE (rgs gs) x p)) z p) w) := by
  have HL := Lib.hid (r9Need_any z w)
  rw [need_no hz] at HL
  have HR := Lib.hid (GetEnd.no (r := getC (fun p => (rdL (rgs gs) x p, rdE (rgs gs) x p)) z p) (w := w) (w' := w) (er := 1) (by unfold getC; rw [need_no hz, if_pos rfl]) (Below.refl _ _))
  go_enter Tryd.func19, Tryd.ntmps19
  go_wp2_with (go_at_call 12; (with_reducible refine HL.out.mono ?_); rintro e w1 ⟨rfl, rfl⟩)
  go_ret3
  exact HR.out
set_option maxRecDepth 100000 in
set_option maxHeartbeats 8000000 in
theorem r9Get_yes (x p : Int) (z : Nat) (h : GA w T A n0 c0 gs) (hfew : ∀ r ∈ rgs gs, r.loose.length ≤ 1000) (hz : lgB z = true) : Calls Tryd.prog 19 #[.slice A n0 c0, .int .i64 x, .int .i64 p, .int .i64 z] w (GetEnd (getC (fun p => (rdL (rgs gs) x p, rdE (rgs gs) x p)) z p) w) := by
  have hmx : Tryd.prog.follows .mixedOrders = true := by kernel_rfl
  have HL := Lib.hid (r9Need_any (z : Int) w)
  obtain ⟨hne, hz1, hz2⟩ := need_pos hz
  rw [Int.toNat_natCast] at hne
  obtain ⟨n, hn⟩ : ∃ n, needN (z : Int) = n := ⟨_, rfl⟩
  rw [hn] at hne HL
  have HNE := Lib.hid hne
  obtain ⟨R, hR⟩ : ∃ R, getC (fun p => (rdL (rgs gs) x p, rdE (rgs gs) x p)) z p = R := ⟨_, rfl⟩
  have hR0 : getF (fun p => (rdL (rgs gs) x p, rdE (rgs gs) x p)) z n 0 p [] [] = R := by
    rw [← hR]
    unfold getC
    rw [if_neg ((lg_need z).1 hz), Int.toNat_natCast, hn]
  rw [hR]
  obtain ⟨i0, hi, hz0', hsz, hby⟩ := info_parts int_info
  have hn1 : 1 ≤ n := by omega
  have hn4 : n ≤ 4 := by omega
  have hn0 : ((n : Int) == 0) = false := by simp; omega
  have hdl9 := fun p => Nat.le_trans (rdL_len h x p) (show 128 ≤ 1000000 by decide)
  have HDL9 := Lib.hid hdl9
  clear hdl9
  have HD := Lib.hid (fun wr (hb : Below w.heap.size w wr) p => r6Read_any x p (h.below hb) hfew)
  clear h hR hn hne
  go_enter Tryd.func19, Tryd.ntmps19
  go_wp2_with (go_at_call 12; (with_reducible refine HL.out.mono ?_); rintro e w1 ⟨rfl, rfl⟩)
  go_loopw [2, 12, 13, 14] (fun v2 v12 v13 v14 wr => ∃ (f i : Nat) (p : Int) (s : List UInt8) (l : List Int), f + i = n ∧ v2 = .int .i64 p ∧ v14 = .int .i64 (i : Int) ∧ v12 = .string ⟨s.toArray⟩ ∧ wr.ownsRow w.heap.size 3 1 v13 i (l.map (Value.int .i64)) ∧ getF (fun p => (rdL (rgs gs) x p, rdE (rgs gs) x p)) z f i p s l = R ∧ l.length = i ∧ s.length ≤ 119 * i ∧ Below w.heap.size w wr) (fun _ _ _ v14 _ => n - (intOf v14).toNat)
  case atStart => exact ⟨n, 0, p, [], [], rfl, rfl, rfl, rfl, World.ownsRow_nil _ _ _ _, hR0, rfl, Nat.zero_le _, Below.refl _ w⟩
  case round =>
    obtain ⟨f, i, p, s, l, hfi, rfl, rfl, rfl, ho, hF, hli, hsl, hb⟩ := hrel
    have HO := Lib.hid ho
    have HB := Lib.hid hb
    have HF := Lib.hid hF
    have HFI := Lib.hid hfi
    have HLI := Lib.hid hli
    clear ho hb hF hli
    rcases f with _ | f
    · obtain rfl : i = n := by omega
      obtain ⟨Av, cv, rfl, hvc, hvm, hI⟩ := Ints6.of_own HO.out
      have HI := Lib.hid hI
      obtain ⟨w3, hw3⟩ : ∃ w3 : World, w3 = wr := ⟨_, rfl⟩
      subst hw3
      clear hI hfi
      go_wp2
      go_ret3
      have hfin := HF.out
      rw [getF_end] at hfin
      rw [← hfin]
      exact ⟨Av, i, cv, rfl, HI.out, HB.out⟩
    · have hlt : (i : Int) < (n : Int) := by omega
      have hi3 : i ≤ 3 := by omega
      have HRD := Lib.hid (HD.out wr HB.out p)
      unfold txtV at HRD
      obtain ⟨b, hb⟩ : ∃ b, rdL (rgs gs) x p = b := ⟨_, rfl⟩
      obtain ⟨er, her⟩ : ∃ er, rdE (rgs gs) x p = er := ⟨_, rfl⟩
      have hbl : b.length ≤ 1000000 := by rw [← hb]; exact HDL9.out p
      rw [hb, her] at HRD
      have HRL := Lib.hid hb
      have HRE := Lib.hid her
      clear hb her hfi
      by_cases he : er = 0
      · subst he
        have HUN : Hid (∀ w1, Calls Tryd.prog 21 #[.string ⟨b.toArray⟩] w1 (RUnpRow (unpN b) w1)) := Lib.hid (fun w1 => r7Unpack_row ⟨b.toArray⟩ w1 (by rw [size_list]; exact hbl))
        obtain ⟨⟨kd, cs, e2⟩, hu⟩ : ∃ u, unpN b = u := ⟨_, rfl⟩
        rw [hu] at HUN
        generalize hbb : (⟨b.toArray⟩ : ByteArray) = bb at HUN HRD
        clear hbb
        have HU := Lib.hid hu
        clear hu
        by_cases he2 : e2 = 0
        · subst he2
          by_cases hk : kd = 3
          · subst hk
            by_cases hc1 : cs.length = 1
            · obtain ⟨c, rfl⟩ : ∃ c, cs = [c] := by
                rcases cs with _ | ⟨c, _ | ⟨d, r⟩⟩
                · cases hc1
                · exact ⟨c, rfl⟩
                · simp at hc1
              obtain ⟨pz, hpz⟩ : ∃ pz, partZ z i = pz := ⟨_, rfl⟩
              have HPT : Hid (∀ w1, Calls Tryd.prog 31 #[.int .i64 (z : Int), .int .i64 (i : Int)] w1 fun e w' => e = .returned (.int .i64 (pz : Int)) ∧ w1 = w') := Lib.hid (fun w1 => by rw [← hpz]; exact r9part_any z i w1 (by omega) (by have := HFI.out; have := HNE.out; omega))
              have hp2 : pz ≤ 119 := by rw [← hpz]; exact Nat.min_le_right _ _
              have hwz : IntKind.i64.wrap (2 + (pz : Int)) = 2 + (pz : Int) := by rw [IntKind.wrap_i64]; omega
              have HPZ := Lib.hid hpz
              obtain ⟨cb, hcb⟩ : ∃ cb : ByteArray, (⟨c.toArray⟩ : ByteArray) = cb := ⟨_, rfl⟩
              have hcs : cb.size = c.length := by rw [← hcb, size_list]
              have HCB := Lib.hid hcb
              clear hpz hc1 hcb
              by_cases hc2 : c.length = 2 + pz
              · have HC2 := Lib.hid hc2
                have hne : ((cb.size : Int) != 2 + (pz : Int)) = false := by simp; omega
                have hcs2 : cb.size = 2 + pz := by omega
                clear hc2 hcs
                obtain ⟨nx, hnx⟩ : ∃ nx, numOf (c.take 2) = nx := ⟨_, rfl⟩
                have hnb : nx < 65536 := by rw [← hnx]; exact numOf2_lt c
                have hnw : (nx : Int) ≤ 9223372036854775807 := by omega
                have HNX := Lib.hid hnx
                have HNM : Hid (∀ Q w1, RT w1 Q c 0 → Calls Tryd.prog 43 #[.pointer (some ⟨Q, 0, none⟩), .int .i64 2] w1 (RNumEnd Q w1 nx (c.drop 2) 0)) := Lib.hid (fun Q w1 h => by
                  have := rtNum_any Q c 0 2 w1 h (by have := HC2.out; omega)
                  have e : stN c 0 2 = (nx, c.drop 2, 0) := by
                    unfold stN
                    rw [if_neg (by simp), if_neg (by decide), if_neg (by have := HC2.out; omega), ← hnx]
                    rfl
                  rw [e] at this
                  exact this)
                obtain ⟨sb, hsb⟩ : ∃ sb : ByteArray, (⟨s.toArray⟩ : ByteArray) = sb := ⟨_, rfl⟩
                obtain ⟨s1b, hs1b⟩ : ∃ sb : ByteArray, (⟨(c.drop 2).toArray⟩ : ByteArray) = sb := ⟨_, rfl⟩
                have hz1' : s1b.size = pz := by rw [← hs1b, size_list, List.length_drop]; have := HC2.out; omega
                have hz0 : sb.size ≤ 119 * i := by rw [← hsb, size_list]; exact hsl
                have hex : cb.extract 2 (2 + pz) = s1b := by
                  rw [← HCB.out, ext_cut, ← hs1b]
                  congr 2
                  have e : ((⟨c.toArray⟩ : ByteArray).data.toList) = c := rfl
                  rw [e, List.take_of_length_le (by rw [List.length_drop]; have := HC2.out; omega)]
                have HSA : Hid (sb ++ s1b = ⟨(s ++ c.drop 2).toArray⟩) := Lib.hid (by rw [← hsb, ← hs1b, str_app])
                have HSL : Hid ((s ++ c.drop 2).length ≤ 119 * (i + 1)) := Lib.hid (by rw [List.length_append, List.length_drop]; have := HC2.out; omega)
                have hsum : sb.size + s1b.size ≤ 1000 := by omega
                have HMAP : Hid ((l ++ [p]).map (Value.int .i64) = l.map (Value.int .i64) ++ [.int .i64 p]) := Lib.hid (by simp)
                have HHS : Hid (∀ w1 A1 c1, w1.ownsRow w.heap.size 3 1 (.slice A1 (i + 1) c1) (i + 1) (l.map (Value.int .i64) ++ [.int .i64 p]) → Calls Tryd.prog 28 #[.slice A1 (i + 1) c1, .int .i64 (nx : Int)] w1 fun e w' => e = .returned (.bool (decide ((nx : Int) ∈ l ++ [p]))) ∧ w1 = w') := Lib.hid (fun w1 A1 c1 h => by
                  rw [← HMAP.out] at h
                  obtain ⟨A', c', e, _, _, hI⟩ := Ints6.of_own h
                  injection e with e1 e2 e3
                  subst e1 e3
                  exact r9has_any A1 (i + 1) c1 (l ++ [p]) (nx : Int) w1 hI (by omega))
                rw [hsb]
                clear hsb hs1b hnx hsl
                go_wp2_with (first
                  | (go_at_call 42; go_loud ((with_reducible refine HRD.out.mono ?_); rintro e w1 ⟨rfl, b1⟩; have B1 := Lib.hid b1; clear b1))
                  | (go_at_call 21; go_loud ((with_reducible refine (HUN.out _).mono ?_); rintro e w2 ⟨Aq, nq, cq, rfl, ht2, b2, rw2⟩; have B2 := Lib.hid (below_step HB.out (below_step B1.out b2)); have TX := Lib.hid ht2; have B12 := Lib.hid (below_step B1.out b2); have hnq := ht2.len; simp only [List.length_cons, List.length_nil, Nat.zero_add] at hnq; subst hnq; obtain ⟨gq, oq, csq, rfl, _, _, _⟩ := rw2 (by simp); have ck : w2.cell? ⟨gq, oq, none⟩ = some (.string cb) := (by rw [← HCB.out]; exact row_cell rw2); have RW := Lib.hid rw2; clear b2 ht2 rw2)))
                have hSd : (fun w' : World => w'.cell? ⟨gq, oq, none⟩ = some (.string cb)) w2.drew := ck
                rename_i K hK
                refine wp_held (fun w' : World => w'.cell? ⟨gq, oq, none⟩ = some (.string cb)) K hmx ?_ (fun _ _ h => h)
                refine wpAnyH_take (i := 0) (v := .int .u8 3) rfl (by kernel_rfl) (by kernel_rfl) (by kernel_rfl) (fun _ _ _ h => h) (Or.inl ⟨by rfl, ?_⟩) hSd ?_
                · rintro w6 k1
                  go_simp
                simp only [Act.put, List.setIfInBounds_toArray, List.set_cons_zero, List.set_cons_succ, List.getElem_toArray, List.getElem_cons_zero]
                refine wpAnyH_take (i := 1) (v := .bool false) rfl (by kernel_rfl) (by kernel_rfl) (by kernel_rfl) (fun _ _ _ h => h) (Or.inl ⟨by rfl, ?_⟩) hSd ?_
                · rintro w6 k1
                  go_simp
                simp only [Act.put, List.setIfInBounds_toArray, List.set_cons_zero, List.set_cons_succ, List.getElem_toArray, List.getElem_cons_zero, List.getElem_cons_succ]
                refine wpAnyH_take (i := 2) (v := .bool false) rfl (by kernel_rfl) (by kernel_rfl) (by kernel_rfl) (fun _ _ _ h => h) (Or.inl ⟨by rfl, ?_⟩) hSd ?_
                · rintro w6 k1
                  go_simp
                simp only [Act.put, List.setIfInBounds_toArray, List.set_cons_zero, List.set_cons_succ, List.getElem_toArray, List.getElem_cons_zero, List.getElem_cons_succ]
                refine wpAnyH_take (i := 3) (v := .slice (some ⟨gq, oq, none⟩) 1 cq) rfl (by kernel_rfl) (by kernel_rfl) (by kernel_rfl) (fun _ _ _ h => h) (Or.inl ⟨by rfl, ?_⟩) hSd ?_
                · rintro w6 k1
                  go_simp
                simp only [Act.put, List.setIfInBounds_toArray, List.set_cons_zero, List.set_cons_succ, List.getElem_toArray, List.getElem_cons_zero, List.getElem_cons_succ]
                refine wpAnyH_take (i := 4) (v := .int .i64 1) rfl (by kernel_rfl) (by kernel_rfl) (by kernel_rfl) (fun _ _ _ h => h) (Or.inl ⟨by rfl, ?_⟩) hSd ?_
                · rintro w6 k1
                  go_simp
                simp only [Act.put, List.setIfInBounds_toArray, List.set_cons_zero, List.set_cons_succ, List.getElem_toArray, List.getElem_cons_zero, List.getElem_cons_succ]
                refine wpAnyH_take (i := 5) (v := .bool false) rfl (by kernel_rfl) (by kernel_rfl) (by kernel_rfl) (fun _ _ _ h => h) (Or.inl ⟨by rfl, ?_⟩) hSd ?_
                · rintro w6 k1
                  go_simp
                simp only [Act.put, List.setIfInBounds_toArray, List.set_cons_zero, List.set_cons_succ, List.getElem_toArray, List.getElem_cons_zero, List.getElem_cons_succ]
                refine wpAnyH_take (i := 6) (v := .bool false) rfl (by kernel_rfl) (by kernel_rfl) (by kernel_rfl) (fun _ _ _ h => h) (Or.inl ⟨by rfl, ?_⟩) hSd ?_
                · rintro w6 k1
                  go_simp
                simp only [Act.put, List.setIfInBounds_toArray, List.set_cons_zero, List.set_cons_succ, List.getElem_toArray, List.getElem_cons_zero, List.getElem_cons_succ]
                refine wpAnyH_take (i := 7) (v := .bool false) rfl (by kernel_rfl) (by kernel_rfl) (by kernel_rfl) (fun _ _ _ h => h) (Or.inl ⟨by rfl, ?_⟩) hSd ?_
                · rintro w6 k1
                  go_simp
                simp only [Act.put, List.setIfInBounds_toArray, List.set_cons_zero, List.set_cons_succ, List.getElem_toArray, List.getElem_cons_zero, List.getElem_cons_succ]
                refine wpAnyH_take (i := 8) (v := .slice (some ⟨gq, oq, none⟩) 1 cq) rfl (by kernel_rfl) (by kernel_rfl) (by kernel_rfl) (fun _ _ _ h => h) (Or.inl ⟨by rfl, ?_⟩) hSd ?_
                · rintro w6 k1
                  go_simp
                simp only [Act.put, List.setIfInBounds_toArray, List.set_cons_zero, List.set_cons_succ, List.getElem_toArray, List.getElem_cons_zero, List.getElem_cons_succ]
                refine wpAnyH_take (i := 9) (v := .pointer (some ⟨gq, oq, none⟩)) rfl (by kernel_rfl) (by kernel_rfl) (by kernel_rfl) (fun _ _ _ h => h) (Or.inl ⟨by rfl, ?_⟩) hSd ?_
                · rintro w6 k1
                  go_simp
                simp only [Act.put, List.setIfInBounds_toArray, List.set_cons_zero, List.set_cons_succ, List.getElem_toArray, List.getElem_cons_zero, List.getElem_cons_succ]
                refine wpAnyH_take (i := 10) (v := .string cb) rfl (by kernel_rfl) (by kernel_rfl) (by kernel_rfl) (fun _ _ _ h => h) (Or.inl ⟨by rfl, ?_⟩) hSd ?_
                · rintro w6 k1
                  go_simp
                simp only [Act.put, List.setIfInBounds_toArray, List.set_cons_zero, List.set_cons_succ, List.getElem_toArray, List.getElem_cons_zero, List.getElem_cons_succ]
                refine wpAnyH_take (i := 11) (v := .int .i64 (cb.size : Int)) rfl (by kernel_rfl) (by kernel_rfl) (by kernel_rfl) (fun _ _ _ h => h) (Or.inl ⟨by rfl, ?_⟩) hSd ?_
                · rintro w6 k1
                  go_simp
                simp only [Act.put, List.setIfInBounds_toArray, List.set_cons_zero, List.set_cons_succ, List.getElem_toArray, List.getElem_cons_zero, List.getElem_cons_succ]
                refine wpAnyH_take (i := 12) (v := .int .i64 (z : Int)) rfl (by kernel_rfl) (by kernel_rfl) (by kernel_rfl) (fun _ _ _ h => h) (Or.inl ⟨by rfl, ?_⟩) hSd ?_
                · rintro w6 k1
                  go_simp
                simp only [Act.put, List.setIfInBounds_toArray, List.set_cons_zero, List.set_cons_succ, List.getElem_toArray, List.getElem_cons_zero, List.getElem_cons_succ]
                refine wpAnyH_take (i := 13) (v := .int .i64 (i : Int)) rfl (by kernel_rfl) (by kernel_rfl) (by kernel_rfl) (fun _ _ _ h => h) (Or.inl ⟨by rfl, ?_⟩) hSd ?_
                · rintro w6 k1
                  go_simp
                simp only [Act.put, List.setIfInBounds_toArray, List.set_cons_zero, List.set_cons_succ, List.getElem_toArray, List.getElem_cons_zero, List.getElem_cons_succ]
                refine wpAnyH_ready (rs := [14]) (by kernel_rfl) (by simp) ?_
                refine AllReadyH.cons rfl (fun K5 hK5 => ?_) AllReadyH.nil
                go_simp
                go_at_call 31
                refine (HPT.out _).mono ?_
                rintro e5 w5 ⟨rfl, rfl⟩
                refine hK5.out _ _ hSd (fun _ => ?_)
                clear hK5 K5
                refine wpAnyH_take (i := 15) (v := .int .i64 (2 + pz : Int)) rfl (by kernel_rfl) (by kernel_rfl) (by kernel_rfl) (fun _ _ _ h => h) (Or.inl ⟨by rfl, ?_⟩) hSd ?_
                · rintro w6 k1
                  go_simp
                simp only [Act.put, List.setIfInBounds_toArray, List.set_cons_zero, List.set_cons_succ, List.getElem_toArray, List.getElem_cons_zero, List.getElem_cons_succ]
                refine wpAnyH_take (i := 16) (v := .bool false) rfl (by kernel_rfl) (by kernel_rfl) (by kernel_rfl) (fun _ _ _ h => h) (Or.inl ⟨by rfl, ?_⟩) hSd ?_
                · rintro w6 k1
                  go_simp
                simp only [Act.put, List.setIfInBounds_toArray, List.set_cons_zero, List.set_cons_succ, List.getElem_toArray, List.getElem_cons_zero, List.getElem_cons_succ]
                refine wpAnyH_take (i := 17) (v := .bool false) rfl (by kernel_rfl) (by kernel_rfl) (by kernel_rfl) (fun _ _ _ h => h) (Or.inl ⟨by rfl, ?_⟩) hSd ?_
                · rintro w6 k1
                  go_simp
                simp only [Act.put, List.setIfInBounds_toArray, List.set_cons_zero, List.set_cons_succ, List.getElem_toArray, List.getElem_cons_zero, List.getElem_cons_succ]
                refine wpAnyH_done (by kernel_rfl) ?_ _
                refine hK _ _ ?_
                have ckd : w2.drew.cell? ⟨gq, oq, none⟩ = some (.string cb) := ck
                have OD := Lib.hid (ceOwnBelow HO.out (B12.out.drew))
                have HCK := Lib.hid (show ∀ w4 (o : Obj), (w2.drew.alloc o).grownBy w4 _ → w4.cell? ⟨gq, oq, none⟩ = some (.string cb) from fun w4 o hg => by rw [← HCB.out]; exact row_cell ((RW.out.drew.alloc o).kept_own (OD.out.alloc o) (by decide) hg))
                clear HRD HUN
                by_cases hbad : badNext f (nx : Int) (l ++ [p])
                · have HE : Hid (R = ([], [], 11)) := Lib.hid (by
                    rw [← HF.out]
                    exact getF_next (b := b) (by show (rdL _ x p, rdE _ x p) = _; rw [HRE.out, HRL.out]) HU.out (by rw [HPZ.out]; exact HC2.out) (by rw [HNX.out]; exact hbad))
                  rcases f with _ | f
                  · have hq0 : ((i : Int) + 1 == (n : Int)) = true := by have := HFI.out; simp; omega
                    have hnx0 : ((nx : Int) != 0) = true := by
                      rcases hbad with ⟨_, h⟩ | ⟨h, _⟩
                      · simpa using h
                      · exact absurd rfl h
                    have HFI2 := HFI
                    clear hbad
                    go_wp2_with (first
                      | (at_builtin; go_loud (refine wpList_append_own _ rfl _ _ 22 rfl w.heap.size 3 i0 (.int .i64 0) 1 8 Tryd.underlying22 hi hz0' hsz hby rfl (by decide) _ i _ rfl (OD.out.alloc _) ⟨w2.heap.size, 0, none⟩ 1 1 [.int .i64 p] rfl rfl (lies_one9 _ _ _) (by simp [Value.oneCell']) (by unfold maxLen; omega) (by omega) (Nat.le_trans B2.out.size (by simp)) ?_; intro v4 w4 h7 h8 _; have hB4 : Below w.heap.size w w4 := below_ownR (below_alloc' B2.out.drew (.cells #[.int .i64 p] 3)) h8 (OD.out.alloc (.cells #[.int .i64 p] 3)) (Nat.le_trans B2.out.size (by simp)); obtain ⟨A4, c4, rfl, q1, q2⟩ := own_sliceI h7; have c4k : w4.cell? ⟨gq, oq, none⟩ = some (.string cb) := HCK.out w4 (.cells #[.int .i64 p] 3) h8; obtain ⟨w5, hw5⟩ : ∃ w5, w4.alloc (.cells #[.string cb, .int .i64 0] 100) = w5 := ⟨_, rfl⟩; have b5 : Below w4.heap.size w4 w5 := hw5 ▸ (Below.refl _ w4).alloc (Nat.le_refl _) _; have T5 : Hid (RT w5 w4.heap.size c 0) := Lib.hid (by unfold RT; rw [HCB.out, ← hw5]; exact Has.made w4 100 _); have B5 := Lib.hid (below_step hB4 b5); have O5 := Lib.hid (ceOwnBelow h7 b5); have HW5 := Lib.hid hw5; have H54 := Lib.hid (show w.heap.size ≤ w4.heap.size from hB4.size); have H55 := Lib.hid b5.size; clear h7 h8 hB4 b5 hw5))
                      | (go_at_call 43; go_loud ((try rw [HW5.out]); (with_reducible refine (HNM.out _ _ T5.out).mono ?_); rintro e w6 ⟨rfl, t6, g6⟩; have B6 := Lib.hid (B5.out.trans (below_only g6 H54.out B5.out.size)); have O6 := Lib.hid (O5.out.kept g6 (.inr (ne_T O5.out T5.out))); clear t6 g6))
                      | (go_at_call 28; go_loud ((with_reducible refine (HHS.out _ _ _ O6.out).mono ?_); rintro e w7 ⟨rfl, rfl⟩)))
                    go_ret3
                    exact GetEnd.no HE.out B6.out
                  · have hq0 : ((i : Int) + 1 == (n : Int)) = false := by have := HFI.out; simp; omega
                    have hq1 : (i : Int) + 1 < (n : Int) := by have := HFI.out; omega
                    by_cases h2 : (nx : Int) < 2
                    · clear hbad
                      go_wp2_with (first
                        | (at_builtin; go_loud (refine wpList_append_own _ rfl _ _ 22 rfl w.heap.size 3 i0 (.int .i64 0) 1 8 Tryd.underlying22 hi hz0' hsz hby rfl (by decide) _ i _ rfl (OD.out.alloc _) ⟨w2.heap.size, 0, none⟩ 1 1 [.int .i64 p] rfl rfl (lies_one9 _ _ _) (by simp [Value.oneCell']) (by unfold maxLen; omega) (by omega) (Nat.le_trans B2.out.size (by simp)) ?_; intro v4 w4 h7 h8 _; have hB4 : Below w.heap.size w w4 := below_ownR (below_alloc' B2.out.drew (.cells #[.int .i64 p] 3)) h8 (OD.out.alloc (.cells #[.int .i64 p] 3)) (Nat.le_trans B2.out.size (by simp)); obtain ⟨A4, c4, rfl, q1, q2⟩ := own_sliceI h7; have c4k : w4.cell? ⟨gq, oq, none⟩ = some (.string cb) := HCK.out w4 (.cells #[.int .i64 p] 3) h8; obtain ⟨w5, hw5⟩ : ∃ w5, w4.alloc (.cells #[.string cb, .int .i64 0] 100) = w5 := ⟨_, rfl⟩; have b5 : Below w4.heap.size w4 w5 := hw5 ▸ (Below.refl _ w4).alloc (Nat.le_refl _) _; have T5 : Hid (RT w5 w4.heap.size c 0) := Lib.hid (by unfold RT; rw [HCB.out, ← hw5]; exact Has.made w4 100 _); have B5 := Lib.hid (below_step hB4 b5); have O5 := Lib.hid (ceOwnBelow h7 b5); have HW5 := Lib.hid hw5; have H54 := Lib.hid (show w.heap.size ≤ w4.heap.size from hB4.size); have H55 := Lib.hid b5.size; clear h7 h8 hB4 b5 hw5))
                        | (go_at_call 43; go_loud ((try rw [HW5.out]); (with_reducible refine (HNM.out _ _ T5.out).mono ?_); rintro e w6 ⟨rfl, t6, g6⟩; have B6 := Lib.hid (B5.out.trans (below_only g6 H54.out B5.out.size)); have O6 := Lib.hid (O5.out.kept g6 (.inr (ne_T O5.out T5.out))); clear t6 g6))
                        | (go_at_call 28; go_loud ((with_reducible refine (HHS.out _ _ _ O6.out).mono ?_); rintro e w7 ⟨rfl, rfl⟩)))
                      go_ret3
                      exact GetEnd.no HE.out B6.out
                    · by_cases h9 : 999 < (nx : Int)
                      · clear hbad
                        go_wp2_with (first
                          | (at_builtin; go_loud (refine wpList_append_own _ rfl _ _ 22 rfl w.heap.size 3 i0 (.int .i64 0) 1 8 Tryd.underlying22 hi hz0' hsz hby rfl (by decide) _ i _ rfl (OD.out.alloc _) ⟨w2.heap.size, 0, none⟩ 1 1 [.int .i64 p] rfl rfl (lies_one9 _ _ _) (by simp [Value.oneCell']) (by unfold maxLen; omega) (by omega) (Nat.le_trans B2.out.size (by simp)) ?_; intro v4 w4 h7 h8 _; have hB4 : Below w.heap.size w w4 := below_ownR (below_alloc' B2.out.drew (.cells #[.int .i64 p] 3)) h8 (OD.out.alloc (.cells #[.int .i64 p] 3)) (Nat.le_trans B2.out.size (by simp)); obtain ⟨A4, c4, rfl, q1, q2⟩ := own_sliceI h7; have c4k : w4.cell? ⟨gq, oq, none⟩ = some (.string cb) := HCK.out w4 (.cells #[.int .i64 p] 3) h8; obtain ⟨w5, hw5⟩ : ∃ w5, w4.alloc (.cells #[.string cb, .int .i64 0] 100) = w5 := ⟨_, rfl⟩; have b5 : Below w4.heap.size w4 w5 := hw5 ▸ (Below.refl _ w4).alloc (Nat.le_refl _) _; have T5 : Hid (RT w5 w4.heap.size c 0) := Lib.hid (by unfold RT; rw [HCB.out, ← hw5]; exact Has.made w4 100 _); have B5 := Lib.hid (below_step hB4 b5); have O5 := Lib.hid (ceOwnBelow h7 b5); have HW5 := Lib.hid hw5; have H54 := Lib.hid (show w.heap.size ≤ w4.heap.size from hB4.size); have H55 := Lib.hid b5.size; clear h7 h8 hB4 b5 hw5))
                          | (go_at_call 43; go_loud ((try rw [HW5.out]); (with_reducible refine (HNM.out _ _ T5.out).mono ?_); rintro e w6 ⟨rfl, t6, g6⟩; have B6 := Lib.hid (B5.out.trans (below_only g6 H54.out B5.out.size)); have O6 := Lib.hid (O5.out.kept g6 (.inr (ne_T O5.out T5.out))); clear t6 g6))
                          | (go_at_call 28; go_loud ((with_reducible refine (HHS.out _ _ _ O6.out).mono ?_); rintro e w7 ⟨rfl, rfl⟩)))
                        go_ret3
                        exact GetEnd.no HE.out B6.out
                      · have hm : (nx : Int) ∈ l ++ [p] := by
                          rcases hbad with ⟨h, _⟩ | ⟨_, h | h⟩
                          · cases h
                          · unfold pgOk at h; simp at h; omega
                          · exact h
                        rw [decide_eq_true hm] at HHS
                        clear hbad hm
                        go_wp2_with (first
                          | (at_builtin; go_loud (refine wpList_append_own _ rfl _ _ 22 rfl w.heap.size 3 i0 (.int .i64 0) 1 8 Tryd.underlying22 hi hz0' hsz hby rfl (by decide) _ i _ rfl (OD.out.alloc _) ⟨w2.heap.size, 0, none⟩ 1 1 [.int .i64 p] rfl rfl (lies_one9 _ _ _) (by simp [Value.oneCell']) (by unfold maxLen; omega) (by omega) (Nat.le_trans B2.out.size (by simp)) ?_; intro v4 w4 h7 h8 _; have hB4 : Below w.heap.size w w4 := below_ownR (below_alloc' B2.out.drew (.cells #[.int .i64 p] 3)) h8 (OD.out.alloc (.cells #[.int .i64 p] 3)) (Nat.le_trans B2.out.size (by simp)); obtain ⟨A4, c4, rfl, q1, q2⟩ := own_sliceI h7; have c4k : w4.cell? ⟨gq, oq, none⟩ = some (.string cb) := HCK.out w4 (.cells #[.int .i64 p] 3) h8; obtain ⟨w5, hw5⟩ : ∃ w5, w4.alloc (.cells #[.string cb, .int .i64 0] 100) = w5 := ⟨_, rfl⟩; have b5 : Below w4.heap.size w4 w5 := hw5 ▸ (Below.refl _ w4).alloc (Nat.le_refl _) _; have T5 : Hid (RT w5 w4.heap.size c 0) := Lib.hid (by unfold RT; rw [HCB.out, ← hw5]; exact Has.made w4 100 _); have B5 := Lib.hid (below_step hB4 b5); have O5 := Lib.hid (ceOwnBelow h7 b5); have HW5 := Lib.hid hw5; have H54 := Lib.hid (show w.heap.size ≤ w4.heap.size from hB4.size); have H55 := Lib.hid b5.size; clear h7 h8 hB4 b5 hw5))
                          | (go_at_call 43; go_loud ((try rw [HW5.out]); (with_reducible refine (HNM.out _ _ T5.out).mono ?_); rintro e w6 ⟨rfl, t6, g6⟩; have B6 := Lib.hid (B5.out.trans (below_only g6 H54.out B5.out.size)); have O6 := Lib.hid (O5.out.kept g6 (.inr (ne_T O5.out T5.out))); clear t6 g6))
                          | (go_at_call 28; go_loud ((with_reducible refine (HHS.out _ _ _ O6.out).mono ?_); rintro e w7 ⟨rfl, rfl⟩)))
                        go_ret3
                        exact GetEnd.no HE.out B6.out
                · have HE : Hid (getF (fun p => (rdL (rgs gs) x p, rdE (rgs gs) x p)) z f (i + 1) (nx : Int) (s ++ c.drop 2) (l ++ [p]) = R) := Lib.hid (by
                    rw [← HF.out]
                    have := getF_go (rd := fun p => (rdL (rgs gs) x p, rdE (rgs gs) x p)) (z := z) (f := f) (i := i) (p := p) (s := s) (l := l) (b := b) (c := c) (by show (rdL _ x p, rdE _ x p) = _; rw [HRE.out, HRL.out]) HU.out (by rw [HPZ.out]; exact HC2.out) (by rw [HNX.out]; exact hbad)
                    rw [this, HNX.out])
                  rcases f with _ | f
                  · have hq0 : ((i : Int) + 1 == (n : Int)) = true := by have := HFI.out; simp; omega
                    have hq1 : ¬ ((i : Int) + 1 < (n : Int)) := by have := HFI.out; omega
                    have hnx0 : (nx : Int) = 0 := by
                      by_cases h : (nx : Int) = 0
                      · exact h
                      · exact absurd (Or.inl ⟨rfl, h⟩) hbad
                    clear hbad
                    obtain ⟨f, hf0⟩ : ∃ f, 0 = f := ⟨_, rfl⟩
                    rw [hf0] at HE HFI
                    clear hf0
                    go_wp2_with (first
                      | (at_builtin; go_loud (refine wpList_append_own _ rfl _ _ 22 rfl w.heap.size 3 i0 (.int .i64 0) 1 8 Tryd.underlying22 hi hz0' hsz hby rfl (by decide) _ i _ rfl (OD.out.alloc _) ⟨w2.heap.size, 0, none⟩ 1 1 [.int .i64 p] rfl rfl (lies_one9 _ _ _) (by simp [Value.oneCell']) (by unfold maxLen; omega) (by omega) (Nat.le_trans B2.out.size (by simp)) ?_; intro v4 w4 h7 h8 _; have hB4 : Below w.heap.size w w4 := below_ownR (below_alloc' B2.out.drew (.cells #[.int .i64 p] 3)) h8 (OD.out.alloc (.cells #[.int .i64 p] 3)) (Nat.le_trans B2.out.size (by simp)); obtain ⟨A4, c4, rfl, q1, q2⟩ := own_sliceI h7; have c4k : w4.cell? ⟨gq, oq, none⟩ = some (.string cb) := HCK.out w4 (.cells #[.int .i64 p] 3) h8; obtain ⟨w5, hw5⟩ : ∃ w5, w4.alloc (.cells #[.string cb, .int .i64 0] 100) = w5 := ⟨_, rfl⟩; have b5 : Below w4.heap.size w4 w5 := hw5 ▸ (Below.refl _ w4).alloc (Nat.le_refl _) _; have T5 : Hid (RT w5 w4.heap.size c 0) := Lib.hid (by unfold RT; rw [HCB.out, ← hw5]; exact Has.made w4 100 _); have B5 := Lib.hid (below_step hB4 b5); have O5 := Lib.hid (ceOwnBelow h7 b5); have HW5 := Lib.hid hw5; have H54 := Lib.hid (show w.heap.size ≤ w4.heap.size from hB4.size); have H55 := Lib.hid b5.size; clear h7 h8 hB4 b5 hw5))
                      | (go_at_call 43; go_loud ((try rw [HW5.out]); (with_reducible refine (HNM.out _ _ T5.out).mono ?_); rintro e w6 ⟨rfl, t6, g6⟩; have B6 := Lib.hid (B5.out.trans (below_only g6 H54.out B5.out.size)); have O6 := Lib.hid (O5.out.kept g6 (.inr (ne_T O5.out T5.out))); clear t6 g6))
                      | (go_at_call 28; go_loud ((with_reducible refine (HHS.out _ _ _ O6.out).mono ?_); rintro e w7 ⟨rfl, rfl⟩)))
                    go_roundw
                    case rel => exact ⟨f, i + 1, (nx : Int), s ++ c.drop 2, l ++ [p], by have := HFI.out; omega, (by rw [hnx0]), by go_num, by rw [HSA.out], by rw [HMAP.out]; exact O6.out, HE.out, by rw [List.length_append, HLI.out]; rfl, HSL.out, B6.out⟩
                    case measure => simp [intOf]; omega
                  · have hq0 : ((i : Int) + 1 == (n : Int)) = false := by have := HFI.out; simp; omega
                    have hq1 : (i : Int) + 1 < (n : Int) := by have := HFI.out; omega
                    have h2 : ¬ (nx : Int) < 2 := fun h => hbad (Or.inr ⟨by simp, Or.inl (by unfold pgOk; simp; omega)⟩)
                    have h9 : ¬ 999 < (nx : Int) := fun h => hbad (Or.inr ⟨by simp, Or.inl (by unfold pgOk; simp; omega)⟩)
                    have hm : (nx : Int) ∉ l ++ [p] := fun h => hbad (Or.inr ⟨by simp, Or.inr h⟩)
                    rw [decide_eq_false hm] at HHS
                    obtain ⟨f1, hf1⟩ : ∃ f1, f + 1 = f1 := ⟨_, rfl⟩
                    rw [hf1] at HE HFI
                    clear hbad hm hf1
                    go_wp2_with (first
                      | (at_builtin; go_loud (refine wpList_append_own _ rfl _ _ 22 rfl w.heap.size 3 i0 (.int .i64 0) 1 8 Tryd.underlying22 hi hz0' hsz hby rfl (by decide) _ i _ rfl (OD.out.alloc _) ⟨w2.heap.size, 0, none⟩ 1 1 [.int .i64 p] rfl rfl (lies_one9 _ _ _) (by simp [Value.oneCell']) (by unfold maxLen; omega) (by omega) (Nat.le_trans B2.out.size (by simp)) ?_; intro v4 w4 h7 h8 _; have hB4 : Below w.heap.size w w4 := below_ownR (below_alloc' B2.out.drew (.cells #[.int .i64 p] 3)) h8 (OD.out.alloc (.cells #[.int .i64 p] 3)) (Nat.le_trans B2.out.size (by simp)); obtain ⟨A4, c4, rfl, q1, q2⟩ := own_sliceI h7; have c4k : w4.cell? ⟨gq, oq, none⟩ = some (.string cb) := HCK.out w4 (.cells #[.int .i64 p] 3) h8; obtain ⟨w5, hw5⟩ : ∃ w5, w4.alloc (.cells #[.string cb, .int .i64 0] 100) = w5 := ⟨_, rfl⟩; have b5 : Below w4.heap.size w4 w5 := hw5 ▸ (Below.refl _ w4).alloc (Nat.le_refl _) _; have T5 : Hid (RT w5 w4.heap.size c 0) := Lib.hid (by unfold RT; rw [HCB.out, ← hw5]; exact Has.made w4 100 _); have B5 := Lib.hid (below_step hB4 b5); have O5 := Lib.hid (ceOwnBelow h7 b5); have HW5 := Lib.hid hw5; have H54 := Lib.hid (show w.heap.size ≤ w4.heap.size from hB4.size); have H55 := Lib.hid b5.size; clear h7 h8 hB4 b5 hw5))
                      | (go_at_call 43; go_loud ((try rw [HW5.out]); (with_reducible refine (HNM.out _ _ T5.out).mono ?_); rintro e w6 ⟨rfl, t6, g6⟩; have B6 := Lib.hid (B5.out.trans (below_only g6 H54.out B5.out.size)); have O6 := Lib.hid (O5.out.kept g6 (.inr (ne_T O5.out T5.out))); clear t6 g6))
                      | (go_at_call 28; go_loud ((with_reducible refine (HHS.out _ _ _ O6.out).mono ?_); rintro e w7 ⟨rfl, rfl⟩)))
                    go_roundw
                    case rel => exact ⟨f1, i + 1, (nx : Int), s ++ c.drop 2, l ++ [p], by have := HFI.out; omega, rfl, by go_num, by rw [HSA.out], by rw [HMAP.out]; exact O6.out, HE.out, by rw [List.length_append, HLI.out]; rfl, HSL.out, B6.out⟩
                    case measure => simp [intOf]; omega
              · have HE : Hid (R = ([], [], 11)) := Lib.hid (by
                  rw [← HF.out]
                  exact getF_form (b := b) (by show (rdL _ x p, rdE _ x p) = _; rw [HRE.out, HRL.out]) HU.out (by right; right; rw [HPZ.out]; exact hc2))
                have hne : ((cb.size : Int) != 2 + (pz : Int)) = true := by simp; omega
                clear hc2 hcs
                go_wp2_with (first
                  | (go_at_call 42; go_loud ((with_reducible refine HRD.out.mono ?_); rintro e w1 ⟨rfl, b1⟩; have B1 := Lib.hid b1; clear b1))
                  | (go_at_call 21; go_loud ((with_reducible refine (HUN.out _).mono ?_); rintro e w2 ⟨Aq, nq, cq, rfl, ht2, b2, rw2⟩; have B2 := Lib.hid (below_step HB.out (below_step B1.out b2)); have TX := Lib.hid ht2; have B12 := Lib.hid (below_step B1.out b2); have hnq := ht2.len; simp only [List.length_cons, List.length_nil, Nat.zero_add] at hnq; subst hnq; obtain ⟨gq, oq, csq, rfl, _, _, _⟩ := rw2 (by simp); have ck : w2.cell? ⟨gq, oq, none⟩ = some (.string cb) := (by rw [← HCB.out]; exact row_cell rw2); have RW := Lib.hid rw2; clear b2 ht2 rw2)))
                have hSd : (fun w' : World => w'.cell? ⟨gq, oq, none⟩ = some (.string cb)) w2.drew := ck
                rename_i K hK
                refine wp_held (fun w' : World => w'.cell? ⟨gq, oq, none⟩ = some (.string cb)) K hmx ?_ (fun _ _ h => h)
                refine wpAnyH_take (i := 0) (v := .int .u8 3) rfl (by kernel_rfl) (by kernel_rfl) (by kernel_rfl) (fun _ _ _ h => h) (Or.inl ⟨by rfl, ?_⟩) hSd ?_
                · rintro w6 k1
                  go_simp
                simp only [Act.put, List.setIfInBounds_toArray, List.set_cons_zero, List.set_cons_succ, List.getElem_toArray, List.getElem_cons_zero]
                refine wpAnyH_take (i := 1) (v := .bool false) rfl (by kernel_rfl) (by kernel_rfl) (by kernel_rfl) (fun _ _ _ h => h) (Or.inl ⟨by rfl, ?_⟩) hSd ?_
                · rintro w6 k1
                  go_simp
                simp only [Act.put, List.setIfInBounds_toArray, List.set_cons_zero, List.set_cons_succ, List.getElem_toArray, List.getElem_cons_zero, List.getElem_cons_succ]
                refine wpAnyH_take (i := 2) (v := .bool false) rfl (by kernel_rfl) (by kernel_rfl) (by kernel_rfl) (fun _ _ _ h => h) (Or.inl ⟨by rfl, ?_⟩) hSd ?_
                · rintro w6 k1
                  go_simp
                simp only [Act.put, List.setIfInBounds_toArray, List.set_cons_zero, List.set_cons_succ, List.getElem_toArray, List.getElem_cons_zero, List.getElem_cons_succ]
                refine wpAnyH_take (i := 3) (v := .slice (some ⟨gq, oq, none⟩) 1 cq) rfl (by kernel_rfl) (by kernel_rfl) (by kernel_rfl) (fun _ _ _ h => h) (Or.inl ⟨by rfl, ?_⟩) hSd ?_
                · rintro w6 k1
                  go_simp
                simp only [Act.put, List.setIfInBounds_toArray, List.set_cons_zero, List.set_cons_succ, List.getElem_toArray, List.getElem_cons_zero, List.getElem_cons_succ]
                refine wpAnyH_take (i := 4) (v := .int .i64 1) rfl (by kernel_rfl) (by kernel_rfl) (by kernel_rfl) (fun _ _ _ h => h) (Or.inl ⟨by rfl, ?_⟩) hSd ?_
                · rintro w6 k1
                  go_simp
                simp only [Act.put, List.setIfInBounds_toArray, List.set_cons_zero, List.set_cons_succ, List.getElem_toArray, List.getElem_cons_zero, List.getElem_cons_succ]
                refine wpAnyH_take (i := 5) (v := .bool false) rfl (by kernel_rfl) (by kernel_rfl) (by kernel_rfl) (fun _ _ _ h => h) (Or.inl ⟨by rfl, ?_⟩) hSd ?_
                · rintro w6 k1
                  go_simp
                simp only [Act.put, List.setIfInBounds_toArray, List.set_cons_zero, List.set_cons_succ, List.getElem_toArray, List.getElem_cons_zero, List.getElem_cons_succ]
                refine wpAnyH_take (i := 6) (v := .bool false) rfl (by kernel_rfl) (by kernel_rfl) (by kernel_rfl) (fun _ _ _ h => h) (Or.inl ⟨by rfl, ?_⟩) hSd ?_
                · rintro w6 k1
                  go_simp
                simp only [Act.put, List.setIfInBounds_toArray, List.set_cons_zero, List.set_cons_succ, List.getElem_toArray, List.getElem_cons_zero, List.getElem_cons_succ]
                refine wpAnyH_take (i := 7) (v := .bool false) rfl (by kernel_rfl) (by kernel_rfl) (by kernel_rfl) (fun _ _ _ h => h) (Or.inl ⟨by rfl, ?_⟩) hSd ?_
                · rintro w6 k1
                  go_simp
                simp only [Act.put, List.setIfInBounds_toArray, List.set_cons_zero, List.set_cons_succ, List.getElem_toArray, List.getElem_cons_zero, List.getElem_cons_succ]
                refine wpAnyH_take (i := 8) (v := .slice (some ⟨gq, oq, none⟩) 1 cq) rfl (by kernel_rfl) (by kernel_rfl) (by kernel_rfl) (fun _ _ _ h => h) (Or.inl ⟨by rfl, ?_⟩) hSd ?_
                · rintro w6 k1
                  go_simp
                simp only [Act.put, List.setIfInBounds_toArray, List.set_cons_zero, List.set_cons_succ, List.getElem_toArray, List.getElem_cons_zero, List.getElem_cons_succ]
                refine wpAnyH_take (i := 9) (v := .pointer (some ⟨gq, oq, none⟩)) rfl (by kernel_rfl) (by kernel_rfl) (by kernel_rfl) (fun _ _ _ h => h) (Or.inl ⟨by rfl, ?_⟩) hSd ?_
                · rintro w6 k1
                  go_simp
                simp only [Act.put, List.setIfInBounds_toArray, List.set_cons_zero, List.set_cons_succ, List.getElem_toArray, List.getElem_cons_zero, List.getElem_cons_succ]
                refine wpAnyH_take (i := 10) (v := .string cb) rfl (by kernel_rfl) (by kernel_rfl) (by kernel_rfl) (fun _ _ _ h => h) (Or.inl ⟨by rfl, ?_⟩) hSd ?_
                · rintro w6 k1
                  go_simp
                simp only [Act.put, List.setIfInBounds_toArray, List.set_cons_zero, List.set_cons_succ, List.getElem_toArray, List.getElem_cons_zero, List.getElem_cons_succ]
                refine wpAnyH_take (i := 11) (v := .int .i64 (cb.size : Int)) rfl (by kernel_rfl) (by kernel_rfl) (by kernel_rfl) (fun _ _ _ h => h) (Or.inl ⟨by rfl, ?_⟩) hSd ?_
                · rintro w6 k1
                  go_simp
                simp only [Act.put, List.setIfInBounds_toArray, List.set_cons_zero, List.set_cons_succ, List.getElem_toArray, List.getElem_cons_zero, List.getElem_cons_succ]
                refine wpAnyH_take (i := 12) (v := .int .i64 (z : Int)) rfl (by kernel_rfl) (by kernel_rfl) (by kernel_rfl) (fun _ _ _ h => h) (Or.inl ⟨by rfl, ?_⟩) hSd ?_
                · rintro w6 k1
                  go_simp
                simp only [Act.put, List.setIfInBounds_toArray, List.set_cons_zero, List.set_cons_succ, List.getElem_toArray, List.getElem_cons_zero, List.getElem_cons_succ]
                refine wpAnyH_take (i := 13) (v := .int .i64 (i : Int)) rfl (by kernel_rfl) (by kernel_rfl) (by kernel_rfl) (fun _ _ _ h => h) (Or.inl ⟨by rfl, ?_⟩) hSd ?_
                · rintro w6 k1
                  go_simp
                simp only [Act.put, List.setIfInBounds_toArray, List.set_cons_zero, List.set_cons_succ, List.getElem_toArray, List.getElem_cons_zero, List.getElem_cons_succ]
                refine wpAnyH_ready (rs := [14]) (by kernel_rfl) (by simp) ?_
                refine AllReadyH.cons rfl (fun K5 hK5 => ?_) AllReadyH.nil
                go_simp
                go_at_call 31
                refine (HPT.out _).mono ?_
                rintro e5 w5 ⟨rfl, rfl⟩
                refine hK5.out _ _ hSd (fun _ => ?_)
                clear hK5 K5
                refine wpAnyH_take (i := 15) (v := .int .i64 (2 + pz : Int)) rfl (by kernel_rfl) (by kernel_rfl) (by kernel_rfl) (fun _ _ _ h => h) (Or.inl ⟨by rfl, ?_⟩) hSd ?_
                · rintro w6 k1
                  go_simp
                simp only [Act.put, List.setIfInBounds_toArray, List.set_cons_zero, List.set_cons_succ, List.getElem_toArray, List.getElem_cons_zero, List.getElem_cons_succ]
                refine wpAnyH_take (i := 16) (v := .bool true) rfl (by kernel_rfl) (by kernel_rfl) (by kernel_rfl) (fun _ _ _ h => h) (Or.inl ⟨by rfl, ?_⟩) hSd ?_
                · rintro w6 k1
                  go_simp
                simp only [Act.put, List.setIfInBounds_toArray, List.set_cons_zero, List.set_cons_succ, List.getElem_toArray, List.getElem_cons_zero, List.getElem_cons_succ]
                refine wpAnyH_take (i := 17) (v := .bool true) rfl (by kernel_rfl) (by kernel_rfl) (by kernel_rfl) (fun _ _ _ h => h) (Or.inl ⟨by rfl, ?_⟩) hSd ?_
                · rintro w6 k1
                  go_simp
                simp only [Act.put, List.setIfInBounds_toArray, List.set_cons_zero, List.set_cons_succ, List.getElem_toArray, List.getElem_cons_zero, List.getElem_cons_succ]
                refine wpAnyH_done (by kernel_rfl) ?_ _
                refine hK _ _ ?_
                go_wp2
                go_ret3
                exact GetEnd.no HE.out B2.out.drew
            · have HE : Hid (R = ([], [], 11)) := Lib.hid (by
                rw [← HF.out]
                exact getF_form (b := b) (by show (rdL _ x p, rdE _ x p) = _; rw [HRE.out, HRL.out]) HU.out (by right; left; exact hc1))
              go_wp2_with (first
                | (go_at_call 42; go_loud ((with_reducible refine HRD.out.mono ?_); rintro e w1 ⟨rfl, b1⟩; have B1 := Lib.hid b1; clear b1))
                | (go_at_call 21; go_loud ((with_reducible refine (HUN.out _).mono ?_); rintro e w2 ⟨Aq, nq, cq, rfl, ht2, b2, rw2⟩; have B2 := Lib.hid (below_step HB.out (below_step B1.out b2)); have TX := Lib.hid ht2; have B12 := Lib.hid (below_step B1.out b2); have hne : ((nq : Int) != 1) = true := (by have : nq = cs.length := ht2.len; simp only [bne_iff_ne, ne_eq]; omega); clear b2 ht2 rw2)))
              rename_i K hK
              refine wp_held (fun _ : World => True) K hmx ?_ (fun _ _ h => h)
              refine wpAnyH_take (i := 0) (v := .int .u8 3) rfl (by kernel_rfl) (by kernel_rfl) (by kernel_rfl) (fun _ _ _ h => h) (Or.inl ⟨by rfl, ?_⟩) trivial ?_
              · rintro w6 k1
                go_simp
              simp only [Act.put, List.setIfInBounds_toArray, List.set_cons_zero, List.set_cons_succ, List.getElem_toArray, List.getElem_cons_zero]
              refine wpAnyH_take (i := 1) (v := .bool false) rfl (by kernel_rfl) (by kernel_rfl) (by kernel_rfl) (fun _ _ _ h => h) (Or.inl ⟨by rfl, ?_⟩) trivial ?_
              · rintro w6 k1
                go_simp
              simp only [Act.put, List.setIfInBounds_toArray, List.set_cons_zero, List.set_cons_succ, List.getElem_toArray, List.getElem_cons_zero, List.getElem_cons_succ]
              refine wpAnyH_take (i := 2) (v := .bool false) rfl (by kernel_rfl) (by kernel_rfl) (by kernel_rfl) (fun _ _ _ h => h) (Or.inl ⟨by rfl, ?_⟩) trivial ?_
              · rintro w6 k1
                go_simp
              simp only [Act.put, List.setIfInBounds_toArray, List.set_cons_zero, List.set_cons_succ, List.getElem_toArray, List.getElem_cons_zero, List.getElem_cons_succ]
              refine wpAnyH_take (i := 3) (v := .slice Aq nq cq) rfl (by kernel_rfl) (by kernel_rfl) (by kernel_rfl) (fun _ _ _ h => h) (Or.inl ⟨by rfl, ?_⟩) trivial ?_
              · rintro w6 k1
                go_simp
              simp only [Act.put, List.setIfInBounds_toArray, List.set_cons_zero, List.set_cons_succ, List.getElem_toArray, List.getElem_cons_zero, List.getElem_cons_succ]
              refine wpAnyH_take (i := 4) (v := .int .i64 (nq : Int)) rfl (by kernel_rfl) (by kernel_rfl) (by kernel_rfl) (fun _ _ _ h => h) (Or.inl ⟨by rfl, ?_⟩) trivial ?_
              · rintro w6 k1
                go_simp
              simp only [Act.put, List.setIfInBounds_toArray, List.set_cons_zero, List.set_cons_succ, List.getElem_toArray, List.getElem_cons_zero, List.getElem_cons_succ]
              refine wpAnyH_take (i := 5) (v := .bool true) rfl (by kernel_rfl) (by kernel_rfl) (by kernel_rfl) (fun _ _ _ h => h) (Or.inl ⟨by rfl, ?_⟩) trivial ?_
              · rintro w6 k1
                go_simp
              simp only [Act.put, List.setIfInBounds_toArray, List.set_cons_zero, List.set_cons_succ, List.getElem_toArray, List.getElem_cons_zero, List.getElem_cons_succ]
              refine wpAnyH_take (i := 6) (v := .bool true) rfl (by kernel_rfl) (by kernel_rfl) (by kernel_rfl) (fun _ _ _ h => h) (Or.inl ⟨by rfl, ?_⟩) trivial ?_
              · rintro w6 k1
                go_simp
              simp only [Act.put, List.setIfInBounds_toArray, List.set_cons_zero, List.set_cons_succ, List.getElem_toArray, List.getElem_cons_zero, List.getElem_cons_succ]
              refine wpAnyH_take (i := 7) (v := .bool true) rfl (by kernel_rfl) (by kernel_rfl) (by kernel_rfl) (fun _ _ _ h => h) (Or.inl ⟨by rfl, ?_⟩) trivial ?_
              · rintro w6 k1
                go_simp
              simp only [Act.put, List.setIfInBounds_toArray, List.set_cons_zero, List.set_cons_succ, List.getElem_toArray, List.getElem_cons_zero, List.getElem_cons_succ]
              refine wpAnyH_take (i := 8) (v := undef) rfl (by kernel_rfl) (by kernel_rfl) (by kernel_rfl) (fun _ _ _ h => h) (Or.inr ⟨by rfl, rfl⟩) trivial ?_
              simp only [Act.put, List.setIfInBounds_toArray, List.set_cons_zero, List.set_cons_succ, List.getElem_toArray, List.getElem_cons_zero, List.getElem_cons_succ]
              refine wpAnyH_take (i := 9) (v := undef) rfl (by kernel_rfl) (by kernel_rfl) (by kernel_rfl) (fun _ _ _ h => h) (Or.inr ⟨by rfl, rfl⟩) trivial ?_
              simp only [Act.put, List.setIfInBounds_toArray, List.set_cons_zero, List.set_cons_succ, List.getElem_toArray, List.getElem_cons_zero, List.getElem_cons_succ]
              refine wpAnyH_take (i := 10) (v := undef) rfl (by kernel_rfl) (by kernel_rfl) (by kernel_rfl) (fun _ _ _ h => h) (Or.inr ⟨by rfl, rfl⟩) trivial ?_
              simp only [Act.put, List.setIfInBounds_toArray, List.set_cons_zero, List.set_cons_succ, List.getElem_toArray, List.getElem_cons_zero, List.getElem_cons_succ]
              refine wpAnyH_take (i := 11) (v := undef) rfl (by kernel_rfl) (by kernel_rfl) (by kernel_rfl) (fun _ _ _ h => h) (Or.inr ⟨by rfl, rfl⟩) trivial ?_
              simp only [Act.put, List.setIfInBounds_toArray, List.set_cons_zero, List.set_cons_succ, List.getElem_toArray, List.getElem_cons_zero, List.getElem_cons_succ]
              refine wpAnyH_take (i := 12) (v := undef) rfl (by kernel_rfl) (by kernel_rfl) (by kernel_rfl) (fun _ _ _ h => h) (Or.inr ⟨by rfl, rfl⟩) trivial ?_
              simp only [Act.put, List.setIfInBounds_toArray, List.set_cons_zero, List.set_cons_succ, List.getElem_toArray, List.getElem_cons_zero, List.getElem_cons_succ]
              refine wpAnyH_take (i := 13) (v := undef) rfl (by kernel_rfl) (by kernel_rfl) (by kernel_rfl) (fun _ _ _ h => h) (Or.inr ⟨by rfl, rfl⟩) trivial ?_
              simp only [Act.put, List.setIfInBounds_toArray, List.set_cons_zero, List.set_cons_succ, List.getElem_toArray, List.getElem_cons_zero, List.getElem_cons_succ]
              refine wpAnyH_take (i := 14) (v := undef) rfl (by kernel_rfl) (by kernel_rfl) (by kernel_rfl) (fun _ _ _ h => h) (Or.inr ⟨by rfl, rfl⟩) trivial ?_
              simp only [Act.put, List.setIfInBounds_toArray, List.set_cons_zero, List.set_cons_succ, List.getElem_toArray, List.getElem_cons_zero, List.getElem_cons_succ]
              refine wpAnyH_take (i := 15) (v := undef) rfl (by kernel_rfl) (by kernel_rfl) (by kernel_rfl) (fun _ _ _ h => h) (Or.inr ⟨by rfl, rfl⟩) trivial ?_
              simp only [Act.put, List.setIfInBounds_toArray, List.set_cons_zero, List.set_cons_succ, List.getElem_toArray, List.getElem_cons_zero, List.getElem_cons_succ]
              refine wpAnyH_take (i := 16) (v := undef) rfl (by kernel_rfl) (by kernel_rfl) (by kernel_rfl) (fun _ _ _ h => h) (Or.inr ⟨by rfl, rfl⟩) trivial ?_
              simp only [Act.put, List.setIfInBounds_toArray, List.set_cons_zero, List.set_cons_succ, List.getElem_toArray, List.getElem_cons_zero, List.getElem_cons_succ]
              refine wpAnyH_take (i := 17) (v := .bool true) rfl (by kernel_rfl) (by kernel_rfl) (by kernel_rfl) (fun _ _ _ h => h) (Or.inl ⟨by rfl, ?_⟩) trivial ?_
              · rintro w6 k1
                go_simp
              simp only [Act.put, List.setIfInBounds_toArray, List.set_cons_zero, List.set_cons_succ, List.getElem_toArray, List.getElem_cons_zero, List.getElem_cons_succ]
              refine wpAnyH_done (by kernel_rfl) ?_ _
              refine hK _ _ ?_
              go_wp2
              go_ret3
              exact GetEnd.no HE.out B2.out.drew
          · have HE : Hid (R = ([], [], 11)) := Lib.hid (by
              rw [← HF.out]
              exact getF_form (b := b) (by show (rdL _ x p, rdE _ x p) = _; rw [HRE.out, HRL.out]) HU.out (by left; exact hk))
            have hne : ((kd.toNat : Int) != 3) = true := by
              simp only [bne_iff_ne, ne_eq]
              exact fun e => hk (UInt8.toNat_inj.1 (by rw [show kd.toNat = 3 by omega]; rfl))
            go_wp2_with (first
              | (go_at_call 42; go_loud ((with_reducible refine HRD.out.mono ?_); rintro e w1 ⟨rfl, b1⟩; have B1 := Lib.hid b1; clear b1))
              | (go_at_call 21; go_loud ((with_reducible refine (HUN.out _).mono ?_); rintro e w2 ⟨Aq, nq, cq, rfl, ht2, b2, rw2⟩; have B2 := Lib.hid (below_step HB.out (below_step B1.out b2)); have TX := Lib.hid ht2; have B12 := Lib.hid (below_step B1.out b2); skip; clear b2 ht2 rw2)))
            rename_i K hK
            refine wp_held (fun _ : World => True) K hmx ?_ (fun _ _ h => h)
            refine wpAnyH_take (i := 0) (v := .int .u8 (kd.toNat : Int)) rfl (by kernel_rfl) (by kernel_rfl) (by kernel_rfl) (fun _ _ _ h => h) (Or.inl ⟨by rfl, ?_⟩) trivial ?_
            · rintro w6 k1
              go_simp
            simp only [Act.put, List.setIfInBounds_toArray, List.set_cons_zero, List.set_cons_succ, List.getElem_toArray, List.getElem_cons_zero]
            refine wpAnyH_take (i := 1) (v := .bool true) rfl (by kernel_rfl) (by kernel_rfl) (by kernel_rfl) (fun _ _ _ h => h) (Or.inl ⟨by rfl, ?_⟩) trivial ?_
            · rintro w6 k1
              go_simp
            simp only [Act.put, List.setIfInBounds_toArray, List.set_cons_zero, List.set_cons_succ, List.getElem_toArray, List.getElem_cons_zero, List.getElem_cons_succ]
            refine wpAnyH_take (i := 2) (v := .bool true) rfl (by kernel_rfl) (by kernel_rfl) (by kernel_rfl) (fun _ _ _ h => h) (Or.inl ⟨by rfl, ?_⟩) trivial ?_
            · rintro w6 k1
              go_simp
            simp only [Act.put, List.setIfInBounds_toArray, List.set_cons_zero, List.set_cons_succ, List.getElem_toArray, List.getElem_cons_zero, List.getElem_cons_succ]
            refine wpAnyH_take (i := 3) (v := undef) rfl (by kernel_rfl) (by kernel_rfl) (by kernel_rfl) (fun _ _ _ h => h) (Or.inr ⟨by rfl, rfl⟩) trivial ?_
            simp only [Act.put, List.setIfInBounds_toArray, List.set_cons_zero, List.set_cons_succ, List.getElem_toArray, List.getElem_cons_zero, List.getElem_cons_succ]
            refine wpAnyH_take (i := 4) (v := undef) rfl (by kernel_rfl) (by kernel_rfl) (by kernel_rfl) (fun _ _ _ h => h) (Or.inr ⟨by rfl, rfl⟩) trivial ?_
            simp only [Act.put, List.setIfInBounds_toArray, List.set_cons_zero, List.set_cons_succ, List.getElem_toArray, List.getElem_cons_zero, List.getElem_cons_succ]
            refine wpAnyH_take (i := 5) (v := undef) rfl (by kernel_rfl) (by kernel_rfl) (by kernel_rfl) (fun _ _ _ h => h) (Or.inr ⟨by rfl, rfl⟩) trivial ?_
            simp only [Act.put, List.setIfInBounds_toArray, List.set_cons_zero, List.set_cons_succ, List.getElem_toArray, List.getElem_cons_zero, List.getElem_cons_succ]
            refine wpAnyH_take (i := 6) (v := .bool true) rfl (by kernel_rfl) (by kernel_rfl) (by kernel_rfl) (fun _ _ _ h => h) (Or.inl ⟨by rfl, ?_⟩) trivial ?_
            · rintro w6 k1
              go_simp
            simp only [Act.put, List.setIfInBounds_toArray, List.set_cons_zero, List.set_cons_succ, List.getElem_toArray, List.getElem_cons_zero, List.getElem_cons_succ]
            refine wpAnyH_take (i := 7) (v := .bool true) rfl (by kernel_rfl) (by kernel_rfl) (by kernel_rfl) (fun _ _ _ h => h) (Or.inl ⟨by rfl, ?_⟩) trivial ?_
            · rintro w6 k1
              go_simp
            simp only [Act.put, List.setIfInBounds_toArray, List.set_cons_zero, List.set_cons_succ, List.getElem_toArray, List.getElem_cons_zero, List.getElem_cons_succ]
            refine wpAnyH_take (i := 8) (v := undef) rfl (by kernel_rfl) (by kernel_rfl) (by kernel_rfl) (fun _ _ _ h => h) (Or.inr ⟨by rfl, rfl⟩) trivial ?_
            simp only [Act.put, List.setIfInBounds_toArray, List.set_cons_zero, List.set_cons_succ, List.getElem_toArray, List.getElem_cons_zero, List.getElem_cons_succ]
            refine wpAnyH_take (i := 9) (v := undef) rfl (by kernel_rfl) (by kernel_rfl) (by kernel_rfl) (fun _ _ _ h => h) (Or.inr ⟨by rfl, rfl⟩) trivial ?_
            simp only [Act.put, List.setIfInBounds_toArray, List.set_cons_zero, List.set_cons_succ, List.getElem_toArray, List.getElem_cons_zero, List.getElem_cons_succ]
            refine wpAnyH_take (i := 10) (v := undef) rfl (by kernel_rfl) (by kernel_rfl) (by kernel_rfl) (fun _ _ _ h => h) (Or.inr ⟨by rfl, rfl⟩) trivial ?_
            simp only [Act.put, List.setIfInBounds_toArray, List.set_cons_zero, List.set_cons_succ, List.getElem_toArray, List.getElem_cons_zero, List.getElem_cons_succ]
            refine wpAnyH_take (i := 11) (v := undef) rfl (by kernel_rfl) (by kernel_rfl) (by kernel_rfl) (fun _ _ _ h => h) (Or.inr ⟨by rfl, rfl⟩) trivial ?_
            simp only [Act.put, List.setIfInBounds_toArray, List.set_cons_zero, List.set_cons_succ, List.getElem_toArray, List.getElem_cons_zero, List.getElem_cons_succ]
            refine wpAnyH_take (i := 12) (v := undef) rfl (by kernel_rfl) (by kernel_rfl) (by kernel_rfl) (fun _ _ _ h => h) (Or.inr ⟨by rfl, rfl⟩) trivial ?_
            simp only [Act.put, List.setIfInBounds_toArray, List.set_cons_zero, List.set_cons_succ, List.getElem_toArray, List.getElem_cons_zero, List.getElem_cons_succ]
            refine wpAnyH_take (i := 13) (v := undef) rfl (by kernel_rfl) (by kernel_rfl) (by kernel_rfl) (fun _ _ _ h => h) (Or.inr ⟨by rfl, rfl⟩) trivial ?_
            simp only [Act.put, List.setIfInBounds_toArray, List.set_cons_zero, List.set_cons_succ, List.getElem_toArray, List.getElem_cons_zero, List.getElem_cons_succ]
            refine wpAnyH_take (i := 14) (v := undef) rfl (by kernel_rfl) (by kernel_rfl) (by kernel_rfl) (fun _ _ _ h => h) (Or.inr ⟨by rfl, rfl⟩) trivial ?_
            simp only [Act.put, List.setIfInBounds_toArray, List.set_cons_zero, List.set_cons_succ, List.getElem_toArray, List.getElem_cons_zero, List.getElem_cons_succ]
            refine wpAnyH_take (i := 15) (v := undef) rfl (by kernel_rfl) (by kernel_rfl) (by kernel_rfl) (fun _ _ _ h => h) (Or.inr ⟨by rfl, rfl⟩) trivial ?_
            simp only [Act.put, List.setIfInBounds_toArray, List.set_cons_zero, List.set_cons_succ, List.getElem_toArray, List.getElem_cons_zero, List.getElem_cons_succ]
            refine wpAnyH_take (i := 16) (v := undef) rfl (by kernel_rfl) (by kernel_rfl) (by kernel_rfl) (fun _ _ _ h => h) (Or.inr ⟨by rfl, rfl⟩) trivial ?_
            simp only [Act.put, List.setIfInBounds_toArray, List.set_cons_zero, List.set_cons_succ, List.getElem_toArray, List.getElem_cons_zero, List.getElem_cons_succ]
            refine wpAnyH_take (i := 17) (v := .bool true) rfl (by kernel_rfl) (by kernel_rfl) (by kernel_rfl) (fun _ _ _ h => h) (Or.inl ⟨by rfl, ?_⟩) trivial ?_
            · rintro w6 k1
              go_simp
            simp only [Act.put, List.setIfInBounds_toArray, List.set_cons_zero, List.set_cons_succ, List.getElem_toArray, List.getElem_cons_zero, List.getElem_cons_succ]
            refine wpAnyH_done (by kernel_rfl) ?_ _
            refine hK _ _ ?_
            go_wp2
            go_ret3
            exact GetEnd.no HE.out B2.out.drew
        · have HE : Hid (R = ([], [], e2)) := Lib.hid (by
            rw [← HF.out]
            exact getF_unp (b := b) (by show (rdL _ x p, rdE _ x p) = _; rw [HRE.out, HRL.out]) HU.out he2)
          have hne : (e2 != 0) = true := by simpa using he2
          clear he2
          go_wp2_with (first
            | (go_at_call 42; go_loud ((with_reducible refine HRD.out.mono ?_); rintro e w1 ⟨rfl, b1⟩; have B1 := Lib.hid b1; clear b1))
            | (go_at_call 21; go_loud ((with_reducible refine (HUN.out _).mono ?_); rintro e w2 ⟨Aq, nq, cq, rfl, ht2, b2, rw2⟩; have B2 := Lib.hid (below_step HB.out (below_step B1.out b2)); have TX := Lib.hid ht2; have B12 := Lib.hid (below_step B1.out b2); skip; clear b2 ht2 rw2)))
          go_ret3
          exact GetEnd.no HE.out B2.out
      · have hne : (er != 0) = true := by simpa using he
        have HE : Hid (R = ([], [], er)) := Lib.hid (by
          rw [← HF.out]
          exact getF_read (b := b) (by show (rdL _ x p, rdE _ x p) = _; rw [HRE.out, HRL.out]) he)
        clear he
        generalize (⟨b.toArray⟩ : ByteArray) = bb at HRD
        go_wp2_with (go_at_call 42; go_loud ((with_reducible refine HRD.out.mono ?_); rintro e w1 ⟨rfl, b1⟩; have B1 := Lib.hid (below_step HB.out b1); clear b1))
        go_ret3
        exact GetEnd.no HE.out B1.out
theorem r9Get_any (x p z : Int) (h : GA w T A n0 c0 gs) (hfew : ∀ r ∈ rgs gs, r.loose.length ≤ 1000) : Calls Tryd.prog 19 #[.slice A n0 c0, .int .i64 x, .int .i64 p, .int .i64 z] w (GetEnd (getC (fun p => (rdL (rgs gs) x p, rdE (rgs gs) x p)) z p) w) := by
  cases hz : lgB z
  · exact r9Get_no x p z hz
  · obtain ⟨n, rfl⟩ : ∃ n : Nat, z = (n : Int) := ⟨z.toNat, by have := (need_pos hz).2; omega⟩
    exact r9Get_yes x p n h hfew hz
end

end Go.Proofs.YtdoabcbembinjaaDoor
