/- Package grants: steps, Sources: the code's contracts, no statement. -/
import Derived.Test.YtbgpjboefnacgaaGkd
import Derived.StillTailTactics
namespace Go.Proofs.Ytbgpjboefnacgaa
open Go.RowKit
set_option linter.unusedVariables false

theorem foldG_more (up : List Nat) (l : List G) (k : Nat) (hk : k < l.length) (o : List Nat) : (l.take (k + 1)).foldl (stepG up) o = stepG up ((l.take k).foldl (stepG up) o) l[k] := by
  rw [List.take_succ_eq_append_getElem hk, List.foldl_append]
  rfl
set_option maxRecDepth 100000 in
set_option maxHeartbeats 4000000 in
theorem steps_any (up : List Nat) (A B : Option Addr) (n c m d : Nat) (l : List G) (w : World) (h64 : n ≤ 64) (hu : ArgU w A n c up) (hl : ArgG w B m d l) (L : IsLat up) (hm : m ≤ 1000000) :
    Calls Try.prog 36 #[.slice A n c, .slice B m d] w (NumsEnd (stepsF up l) w) := by
  have HU := Lib.hid hu
  have HN := Lib.hid hu.len
  have HA := Lib.hid hl
  have HM := Lib.hid hl.len
  have HDn := Lib.hid (fun (wr : World) (hb : Below w.heap.size w wr) (a : Int) => down_any up A n c a wr (hu.below hb) (by omega))
  have hmk := make_u64s n (by omega)
  have h64u : Hid (up.length ≤ 64) := Lib.hid (by have := hu.len; omega)
  clear hu hl
  go_enter Try.func36, Try.ntmps36
  go_wp2
  go_loopw [14] (fun i wr => ∃ p : Nat, p ≤ n ∧ i = .int .i64 p ∧ Has wr w.heap.size 24 ((downs up p).map u64V).toArray ∧ Below w.heap.size w wr) (fun i _ => n - (intOf i).toNat)
  case atStart => exact ⟨0, Nat.zero_le _, rfl, by rw [downs_zero, ← HN.out, ← made_u64]; exact Has.made _ _ _, (Below.refl _ _).alloc (Nat.le_refl _) _⟩
  case round =>
    obtain ⟨p, hp, rfl, hh, hb⟩ := hrel
    have HH := Lib.hid hh
    have HB := Lib.hid hb
    clear hh hb
    by_cases hpn : p < n
    · have hbl : p < (downs up p).length := by rw [downs_len, ← HN.out]; exact hpn
      have HE := Lib.hid (downs_next up p)
      have HDp := Lib.hid (HDn.out wr HB.out (p : Int))
      generalize downN up (p : Int) = y at HE HDp
      have i0 : (0 : Int) ≤ (p : Int) := by omega
      have i1 : (p : Int) < (n : Int) := by omega
      go_wp2_with (go_at_call 49; (with_reducible refine HDp.out.mono ?_); rintro e w1 ⟨rfl, h1⟩; have H1 := Lib.hid (HH.out.below h1 HH.out.lt); have B1 := Lib.hid (below_step HB.out h1); have cq := way_cell H1.out hbl; have fq := H1.out.free p; clear h1)
      go_roundw
      case rel => exact ⟨p + 1, by omega, by go_num, by rw [HE.out]; exact way_store H1.out p y, B1.out.setCell (p := ⟨w.heap.size, p, none⟩) (Nat.le_refl _) _⟩
      case measure => simp [intOf]; omega
    · obtain rfl : p = n := by omega
      obtain ⟨wb, hwb⟩ : ∃ wb : World, wb = wr := ⟨_, rfl⟩
      subst hwb
      clear HDn
      go_wp2
      go_loopw [26] (fun i wr => ∃ k : Nat, k ≤ m ∧ i = .int .i64 k ∧ Has wr w.heap.size 24 (((l.take k).foldl (stepG up) (downs up up.length)).map u64V).toArray ∧ Below w.heap.size w wr) (fun i _ => m - (intOf i).toNat)
      case atStart => exact ⟨0, Nat.zero_le _, rfl, by rw [List.take_zero, List.foldl_nil, ← HN.out]; exact HH.out, HB.out⟩
      case round =>
        obtain ⟨k, hk, rfl, hh, hb⟩ := hrel
        have HH2 := Lib.hid hh
        have HB2 := Lib.hid hb
        clear hh hb
        by_cases hkm : k < m
        · have hkl : k < l.length := by have := HM.out; omega
          obtain ⟨b, off, rfl, c1, c2, c3⟩ := (HA.out.below HB2.out).reads.gat hkl
          have HS := Lib.hid (foldG_more up l k hkl (downs up up.length))
          have HOL : Hid (((l.take k).foldl (stepG up) (downs up up.length)).length = p) := Lib.hid (by rw [foldG_len, downs_len, HN.out])
          have HBg := Lib.hid (foldG_big up h64u.out (l.take k) _ (downs_big up h64u.out up.length))
          have HFit := Lib.hid (fun w1 (h1 : Below w.heap.size w w1) => gFits_any up A p c l[k] w1 trivial L (HU.out.below h1))
          unfold gV at HFit
          generalize (l.take k).foldl (stepG up) (downs up up.length) = o at HH2 HS HOL HBg
          have i0 : (0 : Int) ≤ (k : Int) := by omega
          have i1 : (k : Int) < (m : Int) := by omega
          generalize hx : l[k] = x at c1 c2 c3 HS HFit
          clear hx hkl
          have HBo := Lib.hid (fun w1 (h1 : Below (wr.alloc (.cells #[.int .i64 x.a, .int .i64 x.f, .int .i64 x.t] 29)).heap.size (wr.alloc (.cells #[.int .i64 x.a, .int .i64 x.f, .int .i64 x.t] 29)) w1) => (two_boxes (Has.made wr 29 #[.int .i64 x.a, .int .i64 x.f, .int .i64 x.t]) (Has.made wr 29 #[.int .i64 x.a, .int .i64 x.f, .int .i64 x.t]) h1).1)
          have BA := Lib.hid (below_alloc' HB2.out (.cells #[.int .i64 x.a, .int .i64 x.f, .int .i64 x.t] 29))
          have HA2 := Lib.hid (HH2.out.alloc (.cells #[.int .i64 x.a, .int .i64 x.f, .int .i64 x.t] 29))
          obtain ⟨W, hW⟩ : ∃ W, wr.alloc (.cells #[.int .i64 x.a, .int .i64 x.f, .int .i64 x.t] 29) = W := ⟨_, rfl⟩
          rw [hW] at HBo BA HA2
          have HF := Lib.hid (HFit.out W BA.out)
          obtain ⟨b1, b2, b3⟩ := HBo.out W (Below.refl _ _)
          cases hf : fitsG up x
          · rw [hf] at HF
            have HE : Hid (stepG up o x = o) := Lib.hid (by unfold stepG; rw [if_neg (by rw [hf]; simp)])
            clear hf
            go_wp2_with (go_at_call 12; (with_reducible refine HF.out.mono ?_); rintro e w1 ⟨rfl, h1⟩; have B1 := Lib.hid (below_step BA.out h1); have H1 := Lib.hid (HA2.out.below h1 HA2.out.lt); clear h1)
            go_roundw
            case rel => exact ⟨k + 1, by omega, by go_num, by rw [HS.out, HE.out]; exact H1.out, B1.out⟩
            case measure => simp [intOf]; omega
          · rw [hf] at HF
            obtain ⟨⟨ha0, ha⟩, ⟨hg0, hg⟩, ht0, ht⟩ := fitsG_in hf
            have HE : Hid (stepG up o x = o.set x.t.toNat (o.getD x.t.toNat 0 ||| (2 ^ x.a.toNat ||| 2 ^ x.f.toNat))) := Lib.hid (by unfold stepG; rw [if_pos hf])
            have hbl : x.t.toNat < o.length := by rw [HOL.out, HN.out]; exact ht
            clear hf HFit
            obtain ⟨a, ea⟩ : ∃ a : Nat, x.a = a := ⟨x.a.toNat, by omega⟩
            obtain ⟨f, ef⟩ : ∃ a : Nat, x.f = a := ⟨x.f.toNat, by omega⟩
            obtain ⟨t, et⟩ : ∃ a : Nat, x.t = a := ⟨x.t.toNat, by omega⟩
            rw [ea] at ha
            rw [ef] at hg
            rw [et] at ht hbl
            rw [ea, ef, et] at HE
            rw [ea, ef, et] at HBo
            rw [ea, ef, et] at HF
            rw [ea, ef, et] at hW
            rw [ea] at c1 b1
            rw [ef] at c2 b2
            rw [et] at c3 b3
            simp only [Int.toNat_natCast] at ha hg ht hbl HE
            have HVal := Lib.hid (getD_at o t hbl)
            have hy : o[t] < 2 ^ 64 := HBg.out _ (List.getElem_mem hbl)
            have H2a := Lib.hid (shl_num a (by have := h64u.out; omega))
            have H2f := Lib.hid (shl_num f (by have := h64u.out; omega))
            have hpa : 2 ^ a < 2 ^ 64 := Nat.pow_lt_pow_right (by omega) (by have := h64u.out; omega)
            have hpf : 2 ^ f < 2 ^ 64 := Nat.pow_lt_pow_right (by omega) (by have := h64u.out; omega)
            have HO1 := Lib.hid (u64_or_nat (2 ^ a) (2 ^ f) hpa hpf)
            have HO2 := Lib.hid (u64_or_nat o[t] (2 ^ a ||| 2 ^ f) hy (Nat.or_lt_two_pow hpa hpf))
            have HCr := Lib.hid (fun w1 (h : Has w1 w.heap.size 24 (o.map u64V).toArray) => way_cell h hbl)
            rw [HVal.out] at HE
            generalize 2 ^ a = za at HE H2a HO1 HO2 hpa
            generalize 2 ^ f = zf at HE H2f HO1 HO2 hpf
            generalize o[t] = y at HE HO2 HCr hy
            clear ea ef et ha0 hg0 ht0 HVal hy hpa hpf
            have j0 : (0 : Int) ≤ (a : Int) := by omega
            have j1 : (0 : Int) ≤ (f : Int) := by omega
            have j2 : (0 : Int) ≤ (t : Int) := by omega
            have j3 : (t : Int) < (p : Int) := by have := HN.out; omega
            have M1 : Hid (min a 64 = a) := Lib.hid (by have := h64u.out; omega)
            have M2 : Hid (min f 64 = f) := Lib.hid (by have := h64u.out; omega)
            clear ha hg ht hbl
            go_wp2_with (go_at_call 12; (with_reducible refine HF.out.mono ?_); rintro e w1 ⟨rfl, h1⟩; have B1 := Lib.hid (below_step BA.out h1); have H1 := Lib.hid (HA2.out.below h1 HA2.out.lt); clear b1 b2 b3; obtain ⟨b1, b2, b3⟩ := HBo.out _ h1; have q1 := HCr.out _ H1.out; have q2 := H1.out.free t; clear h1)
            go_still_tail 14, (by kernel_rfl)
            change wpList _ _ _ _ _ w1.drew
            have q1d : w1.drew.cell? ⟨w.heap.size, t, none⟩ = some (.int .u64 (y : Int)) := q1
            have q2d : w1.drew.frozen? ⟨w.heap.size, t, none⟩ = false := q2
            have D1 := Lib.hid H1.out.drew
            have E1 := Lib.hid B1.out.drew
            rw [M1.out, M2.out, H2a.out, H2f.out, HO1.out, HO2.out]
            go_wp2
            go_roundw
            case rel => exact ⟨k + 1, by omega, by go_num, by rw [HS.out, HE.out]; exact way_store D1.out t _, E1.out.setCell (p := ⟨w.heap.size, t, none⟩) (Nat.le_refl _) _⟩
            case measure => simp [intOf]; omega
        · obtain rfl : k = m := by omega
          have HR : Hid (ArgU wr (some ⟨w.heap.size, 0, none⟩) p p (stepsF up l)) := Lib.hid (by
            have h1 := HH2.out
            rw [List.take_of_length_le (by have := HM.out; omega)] at h1
            exact has_argU h1 (by rw [stepsF_len, HN.out]) (by unfold maxLen; omega) (foldG_big up h64u.out l _ (downs_big up h64u.out up.length)))
          obtain ⟨w4, hw4⟩ : ∃ w4 : World, w4 = wr := ⟨_, rfl⟩
          subst hw4
          go_wp2
          go_ret
          exact ⟨_, _, _, rfl, HR.out, HB2.out⟩

set_option maxRecDepth 100000 in
set_option maxHeartbeats 4000000 in
theorem gSources_any (up : List Nat) (A B : Option Addr) (n c m d x : Nat) (l : List G) (w : World) (ht : Base4 w) (L : IsLat up) (hu : ArgU w A n c up) (hl : ArgG w B m d l) (hm : m ≤ 1000000) (hx : x < 2 ^ 64) :
    Calls Try.prog 18 #[.slice A n c, .slice B m d, .int .u64 x] w (U64End (srcN up l x) w) := by
  have h64 : n ≤ 64 := by have := L.1.2; have := hu.len; omega
  have hs64 : (stepsF up l).length ≤ 64 := by rw [stepsF_len]; exact L.1.2
  have HN := Lib.hid hu.len
  have HSt := Lib.hid (steps_any up A B n c m d l w h64 hu hl L hm)
  have HCl := Lib.hid (fun (A1 : Option Addr) (n1 c1 : Nat) (w1 : World) (h1 : ArgU w1 A1 n1 c1 (stepsF up l)) => laClose_all (stepsF up l) A1 n1 c1 w1 h1 (by have := h1.len; omega))
  have HRes := Lib.hid (acc_src up l x L.1.2)
  have HBg := Lib.hid (closeN_big _ hs64)
  have HCL : Hid ((closeN (stepsF up l)).length = n) := Lib.hid (by rw [closeN_len _ hs64, stepsF_len, HN.out])
  rw [← HN.out] at HRes
  clear hu hl L hs64
  generalize stepsF up l = s at HSt HCl HRes HBg HCL
  generalize closeN s = o at HCl HRes HBg HCL
  go_enter Try.func18, Try.ntmps18
  go_wp2_with (first
    | (go_at_call 36; (with_reducible refine HSt.out.mono ?_); rintro e w1 ⟨A1, n1, c1, rfl, ha, h1⟩; have R1 := Lib.hid ha; have B1 := Lib.hid h1; clear h1 ha)
    | (go_at_call 35; (with_reducible refine (HCl.out _ _ _ _ R1.out).mono ?_); rintro e w2 ⟨A2, n2, c2, rfl, ha, h1⟩; have R2 := Lib.hid ha; have B2 := Lib.hid (below_step B1.out h1); clear h1 ha))
  obtain rfl : n2 = n := by have := R2.out.len; have := HCL.out; omega
  go_loopw [7, 15] (fun v i wr => ∃ k : Nat, k ≤ n2 ∧ i = .int .i64 k ∧ v = .int .u64 (accN o x k : Int) ∧ Below w.heap.size w wr ∧ Below w2.heap.size w2 wr) (fun _ i _ => n2 - (intOf i).toNat)
  case atStart => exact ⟨0, Nat.zero_le _, rfl, rfl, B2.out, Below.refl _ _⟩
  case round =>
    obtain ⟨k, hk, rfl, rfl, hb, hb2⟩ := hrel
    have HB := Lib.hid hb
    have HB2 := Lib.hid hb2
    clear hb hb2
    by_cases hkn : k < n2
    · have hkl : k < o.length := by rw [HCL.out]; exact hkn
      obtain ⟨b, off, rfl, ck⟩ := (R2.out.below HB2.out).reads.at_ hkl
      have hy : o[k] < 2 ^ 64 := HBg.out _ (List.getElem_mem hkl)
      have HAc : Hid (accN o x (k + 1) = if x.testBit k = true then accN o x k ||| o[k] else accN o x k) := Lib.hid (by rw [← getD_at o k hkl]; rfl)
      have hz : accN o x k < 2 ^ 64 := accN_lt o x HBg.out k (by omega)
      have HO := Lib.hid (u64_or_nat (accN o x k) o[k] hz hy)
      have HH := Lib.hid (half_bit x k)
      have HM1 : Hid (min k 64 = k) := Lib.hid (by omega)
      have i0 : (0 : Int) ≤ (k : Int) := by omega
      have i1 : (k : Int) < (n2 : Int) := by omega
      generalize o[k] = y at ck HAc HO hy
      generalize accN o x k = z at HAc HO hz ⊢
      clear hkl hy hz
      obtain ⟨q, hq⟩ : ∃ q, x.testBit k = q := ⟨_, rfl⟩
      have HQ := Lib.hid (shr_bit x k hx (Lib.hid hq) HH)
      rw [hq] at HAc
      clear hq HH
      cases q
      · have e1 := HQ.out
        have HE : Hid (accN o x (k + 1) = z) := Lib.hid (by rw [HAc.out]; rfl)
        clear HAc HO
        go_wp2
        go_roundw
        case rel => exact ⟨k + 1, by omega, by go_num, u64_eq (by rw [HE.out]), HB.out, HB2.out⟩
        case measure => simp [intOf]; omega
      · have e1 := HQ.out
        have HE : Hid (accN o x (k + 1) = z ||| y) := Lib.hid (by rw [HAc.out]; rfl)
        clear HAc
        go_wp2
        go_roundw
        case rel => exact ⟨k + 1, by omega, by go_num, u64_eq (by rw [HE.out, HO.out]), HB.out, HB2.out⟩
        case measure => simp [intOf]; omega
    · obtain rfl : k = n2 := by omega
      rw [HRes.out]
      obtain ⟨w4, hw4⟩ : ∃ w4 : World, w4 = wr := ⟨_, rfl⟩
      subst hw4
      go_wp2
      go_ret
      exact ⟨rfl, HB.out⟩

end Go.Proofs.Ytbgpjboefnacgaa
