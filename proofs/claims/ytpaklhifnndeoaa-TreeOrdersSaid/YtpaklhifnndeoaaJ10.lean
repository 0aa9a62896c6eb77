import Derived.Test.YtpaklhifnndeoaaJ09
import Derived.Test.YtpaklhifnndeoaaJ03
import Derived.Deep.LoopGhost
import Derived.Test.YtpaklhifnndeoaaJ05
/- Of a claim's texts, joined: Tqf Tqg Tqh Trl Tpa. No statement but in the last. -/
section
namespace Go.Proofs.Ytpaklhifnndeoaa
open Go.RowKit
set_option linter.unusedVariables false

theorem trKidsOf_branch (F : Nat → Prop) (x : NDV) (p : Int) (l : List (List UInt8 × Tr)) (w : World) (h : RepT F w x (.branch p l)) : Calls Try.prog 47 #[ndV x] w fun e w' => e = .returned (.int .i64 (l.length : Int)) ∧ Below w.heap.size w w' := by
  obtain ⟨hp, hlf, hk, hv, ks, hd, hb⟩ := repT_rowB.1 h
  obtain ⟨xp, xlf, kA, kn, kc, vA, vn, vc, dA, dn, dc⟩ := x
  simp only at hp hlf hk hd
  subst hp hlf
  unfold ndV
  simp only
  have e1 : kn = l.length := by have := hk.len; simpa using this.symm
  have e2 : dn = l.length := by rw [hd.lenS ndL_len (by omega), hb.1]
  have hm : min (kn : Int) (dn : Int) = (kn : Int) := by omega
  rw [← e1]
  have hB : Below w.heap.size w (w.alloc (.cells #[.int .i64 xp, .bool false, .slice kA kn kc, .slice vA vn vc, .slice dA dn dc] 29)) := (Below.refl _ w).alloc (Nat.le_refl _) _
  have HB := Lib.hid hB
  clear hB h hk hv hd hb e1 e2
  go_enter Try.func47, Try.ntmps47
  go_wp2
  go_ret
  exact ⟨rfl, HB.out⟩
set_option maxRecDepth 100000 in
set_option maxHeartbeats 1000000 in
theorem trWay_any (F : Nat → Prop) (x : NDV) (l : List (List UInt8 × Tr)) (s : List UInt8) (w : World) (hkey : RwF F w x.kA x.kn x.kc 1 (l.map fun y => strV y.1)) (hn : l.length ≤ 1000) :
    Calls Try.prog 32 #[ndV x, .string ⟨s.toArray⟩] w fun e w' => e = .returned (.int .i64 (wayT l s : Int)) ∧ Below w.heap.size w w' := by
  obtain ⟨p, lf, A, n, c, vA, vn, vc, dA, dn, dc⟩ := x
  simp only at hkey
  unfold ndV wayT
  simp only
  have hlen : n = l.length := by have := hkey.len; simpa using this.symm
  obtain ⟨W, hW⟩ : ∃ W, w.alloc (.cells #[.int .i64 p, .bool lf, .slice A n c, .slice vA vn vc, .slice dA dn dc] 29) = W := ⟨_, rfl⟩
  have hB0 : Below w.heap.size w W := hW ▸ (Below.refl _ w).alloc (Nat.le_refl _) _
  have hX : Has W w.heap.size 29 #[.int .i64 p, .bool lf, .slice A n c, .slice vA vn vc, .slice dA dn dc] := hW ▸ Has.made w 29 _
  have HR := Lib.hid (hkey.below hB0)
  rw [← hlen] at hn ⊢
  have HN := Lib.hid hlen
  have HB0 := Lib.hid hB0
  have hWC := fun j => wayTo_le l s j
  have HWC := Lib.hid hWC
  have HWS : Hid (∀ j : Nat, wayTo l s (j + 1) = if Op.bytesLess s (l.getD (j + 1) default).1 then wayTo l s j else j + 1) := Lib.hid (fun j => rfl)
  clear hkey hB0 hlen hWC
  obtain ⟨ss, hss⟩ : ∃ ss : ByteArray, (⟨s.toArray⟩ : ByteArray) = ss := ⟨_, rfl⟩
  have hsl : ss.toList = s := by rw [← hss]; exact Go.ByteArray.toList_mk _
  obtain ⟨P, hP⟩ : ∃ P, w.heap.size = P := ⟨_, rfl⟩
  have x2 := hX.cell 2
  rw [hP] at hX x2 HB0
  rw [hss]
  clear hss
  go_enter Try.func32, Try.ntmps32
  go_wp2
  try rw [hP]
  clear hW
  go_loop [5] (fun i => ∃ j : Int, i = .int .i64 j ∧ -1 ≤ j ∧ j < n ∧ wayTo l s (n - 1) = wayTo l s j.toNat) (fun i => (intOf i).toNat)
  case atStart => exact ⟨(n : Int) - 1, rfl, by omega, by omega, by congr 1; omega⟩
  case round =>
    obtain ⟨j, rfl, hj1, hj2, hj⟩ := hrel
    have HJ := Lib.hid hj
    clear hj
    by_cases hlt : 0 < j
    · obtain ⟨m, rfl⟩ : ∃ m : Nat, j = ((m + 1 : Nat) : Int) := ⟨j.toNat - 1, by omega⟩
      obtain ⟨e, he⟩ : ∃ e, l[m + 1]? = some e := ⟨_, List.getElem?_eq_getElem (by rw [← HN.out]; omega)⟩
      obtain ⟨g, off, rfl, _, c0⟩ := HR.out.str he
      have HE : Hid (wayTo l s (m + 1) = if Op.bytesLess s e.1 then wayTo l s m else m + 1) := Lib.hid (by rw [HWS.out, List.getD_eq_getElem?_getD, he]; rfl)
      obtain ⟨sk, hsk⟩ : ∃ sk : ByteArray, (⟨e.1.toArray⟩ : ByteArray) = sk := ⟨_, rfl⟩
      have hkl : sk.toList = e.1 := by rw [← hsk]; exact Go.ByteArray.toList_mk _
      rw [hsk] at c0
      rw [← hkl] at HE
      clear hsk hkl he
      have i0 : (0 : Int) ≤ ((m + 1 : Nat) : Int) := by omega
      have i1 : ((m + 1 : Nat) : Int) < (n : Int) := by omega
      by_cases hbl : Op.bytesLess s sk.toList = true
      · obtain ⟨f0, f1⟩ := le_no hbl
        have HE2 : Hid (wayTo l s (m + 1) = wayTo l s m) := Lib.hid (by rw [HE.out, if_pos hbl])
        clear hbl HE
        go_wp2
        go_round
        case rel => exact ⟨m, rfl, by omega, by omega, by rw [HJ.out, Int.toNat_natCast, Int.toNat_natCast]; exact HE2.out⟩
        case measure => simp [intOf]
      · have hbl2 : Op.bytesLess s sk.toList = false := by simpa using hbl
        have HE2 : Hid (wayTo l s (m + 1) = m + 1) := Lib.hid (by rw [HE.out, if_neg hbl])
        have HJ2 : Hid (wayTo l s (n - 1) = m + 1) := Lib.hid (by rw [HJ.out, Int.toNat_natCast]; exact HE2.out)
        rcases le_yes hbl2 with f0 | ⟨f0, f1⟩
        · clear hbl hbl2 HE
          go_wp2
          go_ret
          rw [HJ2.out]
          exact ⟨rfl, HB0.out⟩
        · clear hbl hbl2 HE
          go_wp2
          go_ret
          rw [HJ2.out]
          exact ⟨rfl, HB0.out⟩
    · have HZ : Hid (wayTo l s (n - 1) = 0) := Lib.hid (by
        rw [HJ.out]
        have := HWC.out j.toNat
        omega)
      go_wp2
      go_ret
      rw [HZ.out]
      exact ⟨rfl, HB0.out⟩
def IdxE (l : List Lf) (s : List UInt8) (z : Int) : Prop := (z = -1 ∧ ∀ y ∈ l, y.k ≠ s) ∨ ∃ (k : Nat) (y : Lf), z = k ∧ l[k]? = some y ∧ y.k = s ∧ ∀ (j : Nat) (u : Lf), j < k → l[j]? = some u → u.k ≠ s
theorem idx_get {l : List Lf} {s : List UInt8} {z : Int} (h : IdxE l s z) : (z = -1 ∧ getL15 l s = none) ∨ ∃ (k : Nat) (y : Lf), z = k ∧ l[k]? = some y ∧ getL15 l s = some y.d := by
  rcases h with ⟨h1, h2⟩ | ⟨k, y, h1, h2, h3, h4⟩
  · refine .inl ⟨h1, ?_⟩
    unfold getL15
    rw [List.find?_eq_none.2 (fun y hy => by simpa using h2 y hy)]
    rfl
  · refine .inr ⟨k, y, h1, h2, ?_⟩
    unfold getL15
    have hlt := (List.getElem?_eq_some_iff.1 h2).1
    have e : l.find? (fun x => x.k == s) = some y := by
      rw [List.find?_eq_some_iff_getElem]
      refine ⟨by simpa using h3, k, hlt, (List.getElem?_eq_some_iff.1 h2).2, fun j hj => ?_⟩
      have := h4 j l[j] hj (List.getElem?_eq_getElem (by omega))
      simpa using this
    rw [e]
    rfl
set_option maxHeartbeats 1000000 in
theorem indexS15_any (F : Nat → Prop) (A : Option Addr) (n c : Nat) (l : List Lf) (s : List UInt8) (w : World) (h : RwF F w A n c 1 (l.map fun y => strV y.k)) (hn : n ≤ 1000000) :
    Calls Try.prog 48 #[.slice A n c, .string ⟨s.toArray⟩] w fun e w' => (∃ z, e = .returned (.int .i64 z) ∧ IdxE l s z) ∧ w = w' := by
  have HA := Lib.hid h
  have HN : Hid (n = l.length) := Lib.hid (by have := h.len; simpa using this.symm)
  clear h
  obtain ⟨ss, hss⟩ : ∃ ss : ByteArray, (⟨s.toArray⟩ : ByteArray) = ss := ⟨_, rfl⟩
  have hsl : s = ss.toList := by rw [← hss]; exact (Go.ByteArray.toList_mk _).symm
  rw [hss]
  have HSL := Lib.hid hsl
  clear hss hsl
  go_enter Try.func48, Try.ntmps48
  go_wp2
  go_loopw [8] (fun i wr => wr = w ∧ ∃ k : Nat, k ≤ n ∧ i = .int .i64 k ∧ ∀ (j : Nat) (u : Lf), j < k → l[j]? = some u → u.k ≠ s) (fun i _ => n - (intOf i).toNat)
  case atStart => exact ⟨rfl, 0, Nat.zero_le _, rfl, fun j u hj => absurd hj (by omega)⟩
  case round =>
    obtain ⟨rfl, k, hk, rfl, hj⟩ := hrel
    have HJ := Lib.hid hj
    clear hj
    by_cases hlt : k < n
    · obtain ⟨y, hy⟩ : ∃ y, l[k]? = some y := ⟨_, List.getElem?_eq_getElem (by rw [← HN.out]; exact hlt)⟩
      obtain ⟨g, off, rfl, _, ck⟩ := HA.out.str hy
      have HY := Lib.hid hy
      obtain ⟨sk, hsk⟩ : ∃ sk : ByteArray, (⟨y.k.toArray⟩ : ByteArray) = sk := ⟨_, rfl⟩
      have hkl : sk.toList = y.k := by rw [← hsk]; exact Go.ByteArray.toList_mk _
      rw [hsk] at ck
      have HKL := Lib.hid hkl
      clear hsk hkl hy
      by_cases he : ss.toList = sk.toList
      · have hq : (ss.toList == sk.toList) = true := by simpa using he
        have HF : Hid (IdxE l s k) := Lib.hid (.inr ⟨k, y, rfl, HY.out, by rw [← HKL.out, HSL.out]; exact he.symm, HJ.out⟩)
        clear he
        go_wp2
        go_ret
        exact ⟨⟨_, rfl, HF.out⟩, rfl⟩
      · have hq : (ss.toList == sk.toList) = false := by simpa using he
        have HF : Hid (y.k ≠ s) := Lib.hid (by rw [← HKL.out, HSL.out]; exact fun e => he e.symm)
        clear he
        go_wp2
        go_roundw
        case rel => exact ⟨trivial, k + 1, by omega, by go_num, fun j u hj hu => by
          by_cases e : j = k
          · subst e
            rw [HY.out] at hu
            injection hu with hu
            subst hu
            exact HF.out
          · exact HJ.out j u (by omega) hu⟩
        case measure => simp [intOf]; omega
    · obtain rfl : k = n := by omega
      have HF : Hid (IdxE l s (-1)) := Lib.hid (.inl ⟨rfl, fun y hy => by
        obtain ⟨j, hj⟩ := List.getElem?_of_mem hy
        exact HJ.out j y (by rw [HN.out]; exact (List.getElem?_eq_some_iff.1 hj).1) hj⟩)
      go_wp2
      go_ret
      exact ⟨⟨_, rfl, HF.out⟩, rfl⟩
theorem idx_uniq {l : List Lf} {s : List UInt8} {z z' : Int} (h : IdxE l s z) (h' : IdxE l s z') : z = z' := by
  rcases h with ⟨h1, h2⟩ | ⟨k, y, h1, h2, h3, h4⟩
  · rcases h' with ⟨g1, g2⟩ | ⟨k', y', g1, g2, g3, g4⟩
    · rw [h1, g1]
    · exact absurd g3 (h2 y' (List.mem_of_getElem? g2))
  · rcases h' with ⟨g1, g2⟩ | ⟨k', y', g1, g2, g3, g4⟩
    · exact absurd h3 (g2 y (List.mem_of_getElem? h2))
    · rcases Nat.lt_trichotomy k k' with h | h | h
      · exact absurd h3 (g4 k y h h2)
      · rw [h1, g1, h]
      · exact absurd g3 (h4 k' y' h g2)
theorem idx_is : ∀ (l : List Lf) (s : List UInt8), ∃ z, IdxE l s z
  | [], s => ⟨-1, .inl ⟨rfl, fun y hy => by cases hy⟩⟩
  | x :: l, s => by
    by_cases hx : x.k = s
    · exact ⟨0, .inr ⟨0, x, rfl, rfl, hx, fun j u hj => by omega⟩⟩
    · obtain ⟨z, hz⟩ := idx_is l s
      rcases hz with ⟨h1, h2⟩ | ⟨k, y, h1, h2, h3, h4⟩
      · refine ⟨-1, .inl ⟨rfl, fun y hy => ?_⟩⟩
        rcases List.mem_cons.1 hy with rfl | hy
        · exact hx
        · exact h2 y hy
      · refine ⟨((k + 1 : Nat) : Int), .inr ⟨k + 1, y, rfl, h2, h3, fun j u hj hu => ?_⟩⟩
        cases j with
        | zero => simp at hu; subst hu; exact hx
        | succ j => exact h4 j u (by omega) hu
theorem indexS15_z {l : List Lf} {s : List UInt8} {z : Int} (hz : IdxE l s z) (F : Nat → Prop) (A : Option Addr) (n c : Nat) (w : World) (h : RwF F w A n c 1 (l.map fun y => strV y.k)) (hn : n ≤ 1000000) :
    Calls Try.prog 48 #[.slice A n c, .string ⟨s.toArray⟩] w fun e w' => e = .returned (.int .i64 z) ∧ w = w' :=
  (indexS15_any F A n c l s w h hn).mono (by
    rintro e w' ⟨⟨z', rfl, hz'⟩, hw⟩
    rw [idx_uniq hz' hz]
    exact ⟨rfl, hw⟩)
end Go.Proofs.Ytpaklhifnndeoaa
end

section
namespace Go.Proofs.Ytpaklhifnndeoaa
open Go.RowKit
set_option linter.unusedVariables false

theorem findT_at {p : Int} {l : List (List UInt8 × Tr)} {s : List UInt8} {y : List UInt8 × Tr} (h : l[wayT l s]? = some y) : findT (.branch p l) s = findT y.2 s := by
  have hl : l ≠ [] := by
    rintro rfl
    simp at h
  rw [findT_branch p s hl]
  unfold kidT
  rw [List.getD_eq_getElem?_getD, h]
  rfl
theorem findT_none {p : Int} {s : List UInt8} : findT (.branch p []) s = none := by
  rw [findT]
  split
  · rename_i h
    simp at h
  · rfl
set_option maxRecDepth 100000 in
set_option maxHeartbeats 4000000 in
theorem trFind_any (s : List UInt8) (t : Tr) (F : Nat → Prop) (x : NDV) (w : World) (h : RepT F w x t) (hb : BndT t) : Calls Try.prog 22 #[ndV x, .string ⟨s.toArray⟩] w fun e w' => e = .returned (tellF (findT t s)) ∧ Below w.heap.size w w' := by
  obtain ⟨W, hW⟩ : ∃ W, w.alloc (.cells #[.int .i64 x.p, .bool x.lf, .slice x.kA x.kn x.kc, .slice x.vA x.vn x.vc, .slice x.dA x.dn x.dc] 29) = W := ⟨_, rfl⟩
  have hB0 : Below w.heap.size w W := hW ▸ (Below.refl _ w).alloc (Nat.le_refl _) _
  have hX : Has W w.heap.size 29 #[.int .i64 x.p, .bool x.lf, .slice x.kA x.kn x.kc, .slice x.vA x.vn x.vc, .slice x.dA x.dn x.dc] := hW ▸ Has.made w 29 _
  have hrep := (RepT.old h).mono (G := fun q => q < w.heap.size) fun q hq => hq.2
  have HR0 := Lib.hid (hrep.stay hB0)
  have HB0 := Lib.hid hB0
  have HX0 := Lib.hid hX
  have HBT := Lib.hid hb
  obtain ⟨r, hr⟩ : ∃ r, findT t s = r := ⟨_, rfl⟩
  have HFR := Lib.hid hr
  rw [hr]
  unfold ndV
  obtain ⟨P2, hP2⟩ : ∃ P, w.heap.size = P := ⟨_, rfl⟩
  rw [hP2] at HX0
  have HP2 := Lib.hid hP2
  have HWY := Lib.hid (fun (x : NDV) (l : List (List UInt8 × Tr)) (w : World) h h2 => trWay_any (fun q => q < P2) x l s w h h2)
  have HIX := Lib.hid (fun A n c l z w (hz : IdxE l s z) h h2 => indexS15_z hz (fun q => q < P2) A n c w h h2)
  obtain ⟨ss, hss⟩ : ∃ ss : ByteArray, (⟨s.toArray⟩ : ByteArray) = ss := ⟨_, rfl⟩
  rw [hss] at HWY HIX ⊢
  rw [hP2] at HR0
  clear h hb hB0 hX hrep hr hss
  go_enter Try.func22, Try.ntmps22
  go_wp2
  clear hW hP2
  go_loopg [6] (SizeOf.sizeOf t) (fun k v6 wr => ∃ (t' : Tr) (v : NDV), SizeOf.sizeOf t' = k ∧ RepT (fun q => q < P2) wr v t' ∧ Has wr P2 29 #[.int .i64 v.p, .bool v.lf, .slice v.kA v.kn v.kc, .slice v.vA v.vn v.vc, .slice v.dA v.dn v.dc] ∧ Below P2 w wr ∧ findT t' s = r ∧ BndT t')
  case atStart => exact ⟨t, x, rfl, HR0.out, HX0.out, HP2.out ▸ HB0.out, HFR.out, HBT.out⟩
  case round =>
    obtain ⟨t', v, hk, hrep, hX, hB, hf, hbt⟩ := hrel
    cases t' with
    | leaf p l =>
      obtain ⟨hp, hlf, hkk, ⟨vs, hv, hvb⟩, hd⟩ := repT_rowL.1 hrep
      obtain ⟨vp, vlf, kA, kn, kc, vA, vn, vc, dA, dn, dc⟩ := v
      simp only at hp hlf hkk hv hd hX
      subst hp hlf
      have x1 := hX.cell 1
      have x2 := hX.cell 2
      have x3 := hX.cell 3
      have hl1 : l.length ≤ 100 := by cases hbt; assumption
      have e1 : kn = l.length := by have := hkk.len; simpa using this.symm
      have e2 : vn = l.length := by rw [hv.lenS veL_len (by omega), hvb.1]
      have HKK := Lib.hid hkk
      have HV := Lib.hid hv
      have HVB := Lib.hid hvb
      have HE1 := Lib.hid e1
      have HE2 := Lib.hid e2
      have HF := Lib.hid hf
      have HB := Lib.hid hB
      have hkn : kn ≤ 1000000 := by omega
      clear hk hrep hkk hv hvb hd hX hbt e1 e2 hf hB
      obtain ⟨z, hz⟩ := idx_is l s
      have HZ := Lib.hid hz
      rcases idx_get hz with ⟨rfl, hg⟩ | ⟨k, y, rfl, hy, hg⟩
      · have HR : Hid (r = none) := Lib.hid (by rw [← HF.out]; exact (show findT (.leaf vp l) s = getL15 l s by rw [findT]).trans hg)
        clear hg hz
        go_wp2_with (go_at_call 48; (with_reducible refine (HIX.out _ _ _ _ _ _ HZ.out HKK.out hkn).mono ?_); rintro e7 w7 ⟨rfl, rfl⟩)
        go_ret2
        rw [HR.out]
        exact ⟨rfl, by rw [HP2.out]; exact HB.out⟩
      · have HR : Hid (r = some y.d) := Lib.hid (by rw [← HF.out]; exact (show findT (.leaf vp l) s = getL15 l s by rw [findT]).trans hg)
        obtain ⟨u, hu, huy⟩ := HVB.out.at_ hy
        obtain ⟨g2, off2, rfl, _, hvc⟩ := HV.out.atS veL_len (by omega) hu
        have v0 : wr.cell? ⟨g2, off2 + k * 2, none⟩ = some (.string ⟨u.d.toArray⟩) := hvc 0 _ rfl
        have HUD : Hid (u.d = y.d) := Lib.hid (And.left huy)
        have hlt := (List.getElem?_eq_some_iff.1 hy).1
        have i0 : (0 : Int) ≤ (k : Int) := by omega
        have i1 : ¬ (k : Int) < 0 := by omega
        have i2 : (k : Int) < (vn : Int) := by have := HE2.out; omega
        have i3 : ¬ ((vn : Int) ≤ (k : Int)) := by omega
        obtain ⟨sd, hsd⟩ : ∃ s : ByteArray, (⟨u.d.toArray⟩ : ByteArray) = s := ⟨_, rfl⟩
        rw [hsd] at v0
        have HSD := Lib.hid hsd
        clear hg hy hu huy hvc hlt hsd hz
        go_wp2_with (go_at_call 48; (with_reducible refine (HIX.out _ _ _ _ _ _ HZ.out HKK.out hkn).mono ?_); rintro e7 w7 ⟨rfl, rfl⟩)
        go_ret2
        rw [HR.out]
        refine ⟨?_, by rw [HP2.out]; exact HB.out⟩
        unfold tellF
        simp only
        rw [← HUD.out, HSD.out]
        rfl
    | branch p l =>
      obtain ⟨hp, hlf, hkk, hv, ks, hd, hdb⟩ := repT_rowB.1 hrep
      have hko := fun w2 (hb2 : Below wr.heap.size wr w2) => trKidsOf_branch (fun q => q < P2) v p l w2 (RepT.stay hrep hb2)
      have hwy := fun w2 (hb2 : Below wr.heap.size wr w2) (h1 : l.length ≤ 1000) => HWY.out v l w2 (hkk.below hb2) h1
      obtain ⟨vp, vlf, kA, kn, kc, vA, vn, vc, dA, dn, dc⟩ := v
      simp only at hp hlf hkk hv hd hX
      subst hp hlf
      unfold ndV at hko hwy
      simp only at hko hwy
      have HKO := Lib.hid hko
      have HWY2 := Lib.hid hwy
      have x0 := hX.cell 0
      have x1 := hX.cell 1
      have x2 := hX.cell 2
      have x3 := hX.cell 3
      have x4 := hX.cell 4
      have hl1 : l.length ≤ 100 := by cases hbt; assumption
      have hkid := hbt.kid
      have e1 : dn = l.length := by rw [hd.lenS ndL_len (by omega), hdb.1]
      have HE1 := Lib.hid e1
      have HHD := Lib.hid hd
      have HDB := Lib.hid hdb
      have HKID := Lib.hid hkid
      have HXX := Lib.hid hX
      have HB := Lib.hid hB
      have HK := Lib.hid hk
      have HF := Lib.hid hf
      have hl2 : l.length ≤ 1000 := by omega
      obtain ⟨k, hkw⟩ : ∃ k, wayT l s = k := ⟨_, rfl⟩
      have HKW := Lib.hid hkw
      rw [hkw] at HWY2
      by_cases hl0 : l = []
      · subst hl0
        have hk0 : k = 0 := by rw [← hkw]; rfl
        subst hk0
        have HR : Hid (r = none) := Lib.hid (by rw [← HF.out]; exact findT_none)
        clear hk hrep hkk hv hd hdb hX hbt e1 hf hB hko hwy hkid hkw
        go_wp2_with (first
          | (go_at_call 32; (with_reducible refine (HWY2.out _ (Below.refl _ _) hl2).mono ?_); rintro e7 w7 ⟨rfl, b7⟩; have z := HXX.out.below b7 HXX.out.lt; have y0 := z.cell 0; have y1 := z.cell 1; have y2 := z.cell 2; have y3 := z.cell 3; have y4 := z.cell 4; have B7 := Lib.hid b7; clear b7 z)
          | (go_at_call 47; (with_reducible refine (HKO.out _ B7.out).mono ?_); rintro e8 w8 ⟨rfl, b8⟩; have B8 := Lib.hid b8; clear b8))
        go_ret2
        rw [HR.out]
        refine ⟨rfl, ?_⟩
        rw [HP2.out]
        exact HB.out.trans ((below_step B7.out B8.out).mono (Nat.le_of_lt HXX.out.lt))
      · have hkl : k < l.length := by rw [← hkw]; exact wayT_lt s hl0
        obtain ⟨y, hy⟩ : ∃ y, l[k]? = some y := ⟨_, List.getElem?_eq_getElem hkl⟩
        obtain ⟨u, hu, huy⟩ := hdb.at_ hy
        obtain ⟨g2, off2, rfl, hg2, hvc⟩ := hd.atS ndL_len (by omega) hu
        obtain ⟨ep, elf, ekA, ekn, ekc, evA, evn, evc, edA, edn, edc⟩ := u
        have HKC : Hid (∀ w2, Below wr.heap.size wr w2 → w2.cell? ⟨g2, off2 + k * 5, none⟩ = some (.int .i64 ep) ∧ w2.cell? ⟨g2, off2 + k * 5 + 1, none⟩ = some (.bool elf) ∧ w2.cell? ⟨g2, off2 + k * 5 + 2, none⟩ = some (.slice ekA ekn ekc) ∧ w2.cell? ⟨g2, off2 + k * 5 + 3, none⟩ = some (.slice evA evn evc) ∧ w2.cell? ⟨g2, off2 + k * 5 + 4, none⟩ = some (.slice edA edn edc)) := Lib.hid (fun w2 hb2 => ⟨cell_below (hvc 0 _ rfl) hb2, cell_below (hvc 1 _ rfl) hb2, cell_below (hvc 2 _ rfl) hb2, cell_below (hvc 3 _ rfl) hb2, cell_below (hvc 4 _ rfl) hb2⟩)
        have HUY := Lib.hid huy
        have i0 : (0 : Int) ≤ (k : Int) := by omega
        have i2 : (k : Int) < (dn : Int) := by omega
        have i3 : ¬ ((l.length : Int) ≤ (k : Int)) := by omega
        have HR : Hid (findT y.2 s = r) := Lib.hid (by rw [← HF.out]; exact (findT_at (by rw [hkw]; exact hy)).symm)
        have HBY := Lib.hid (hkid y (List.mem_of_getElem? hy))
        have HSM : Hid (SizeOf.sizeOf y.2 < gk) := Lib.hid (by rw [← hk]; exact Tr.small (List.mem_of_getElem? hy))
        clear hk hrep hkk hv hd hdb hX hbt e1 hf hB hko hwy hkid hkw hy hu huy hvc hkl hg2 hl0
        go_wp2_with (first
          | (go_at_call 32; (with_reducible refine (HWY2.out _ (Below.refl _ _) hl2).mono ?_); rintro e7 w7 ⟨rfl, b7⟩; have z := HXX.out.below b7 HXX.out.lt; have y0 := z.cell 0; have y1 := z.cell 1; have y2 := z.cell 2; have y3 := z.cell 3; have y4 := z.cell 4; have B7 := Lib.hid b7; clear b7 z)
          | (go_at_call 47; (with_reducible refine (HKO.out _ B7.out).mono ?_); rintro e8 w8 ⟨rfl, b8⟩; have z := HXX.out.below (below_step B7.out b8) HXX.out.lt; have u0 := z.cell 0; have u1 := z.cell 1; have u2 := z.cell 2; have u3 := z.cell 3; have u4 := z.cell 4; have f0 := z.free 0; have f1 := z.free 1; have f2 := z.free 2; have f3 := z.free 3; have f4 := z.free 4; obtain ⟨c0, c1, c2, c3, c4⟩ := HKC.out _ (below_step B7.out b8); have B8 := Lib.hid (below_step B7.out b8); have Z8 := Lib.hid z; clear b8 z))
        go_roundg (SizeOf.sizeOf y.2)
        case measure => exact HSM.out
        case rel =>
          refine ⟨y.2, ⟨ep, elf, ekA, ekn, ekc, evA, evn, evc, edA, edn, edc⟩, rfl, ?_, Z8.out.st5 (.int .i64 ep) (.bool elf) (.slice ekA ekn ekc) (.slice evA evn evc) (.slice edA edn edc), ?_, HR.out, HBY.out⟩
          · exact RepT.move (fun q hq hl => ⟨hq, (heap_st5 w8 P2 _ _ _ _ _ q (by omega)).trans (B8.out.block q hl)⟩) HUY.out
          · exact below_st5 (HB.out.trans (B8.out.mono (Nat.le_of_lt HXX.out.lt))) (Nat.le_refl _) _ _ _ _ _
end Go.Proofs.Ytpaklhifnndeoaa
end

section
namespace Go.Proofs.Ytpaklhifnndeoaa
open Go.RowKit
set_option linter.unusedVariables false

def OwnN (F : Nat → Prop) (B : Nat) (w : World) (z : NDV) : Tr → Prop
  | .leaf p l => z.p = p ∧ z.lf = true ∧ ∃ vs, OwnL F B w z l vs
  | .branch p l => z.p = p ∧ z.lf = false ∧ ∃ ks, OwnB F B w z l ks
def NDV.has (z : NDV) (q : Nat) : Prop := (Value.slice z.kA z.kn z.kc).ownBlock = some q ∨ (Value.slice z.vA z.vn z.vc).ownBlock = some q ∨ (Value.slice z.dA z.dn z.dc).ownBlock = some q
def keysT : Tr → List (List UInt8)
  | .leaf _ l => l.map (·.k)
  | .branch _ l => l.map (·.1)
section
variable {F : Nat → Prop} {B : Nat} {w w' : World} {z : NDV} {t : Tr}
theorem OwnN.kind (h : OwnN F B w z t) : z.lf = kindT t := by cases t <;> exact h.2.1
theorem OwnN.rep (h : OwnN F B w z t) : RepT (Fw F B) w z t := by
  cases t with
  | leaf p l => obtain ⟨h1, h2, vs, h3⟩ := h; exact repT_rowL.2 ⟨h1, h2, h3.row⟩
  | branch p l => obtain ⟨h1, h2, ks, h3⟩ := h; exact repT_rowB.2 ⟨h1, h2, h3.row⟩
theorem OwnN.below (h : OwnN F B w z t) (hb : Below w.heap.size w w') : OwnN F B w' z t := by
  cases t with
  | leaf p l => obtain ⟨h1, h2, vs, h3⟩ := h; exact ⟨h1, h2, vs, h3.below hb⟩
  | branch p l => obtain ⟨h1, h2, ks, h3⟩ := h; exact ⟨h1, h2, ks, h3.below hb⟩
theorem OwnN.mono {B' : Nat} (h : OwnN F B w z t) (hb : B' ≤ B) : OwnN F B' w z t := by
  cases t with
  | leaf p l => obtain ⟨h1, h2, vs, h3⟩ := h; exact ⟨h1, h2, vs, h3.mono hb⟩
  | branch p l => obtain ⟨h1, h2, ks, h3⟩ := h; exact ⟨h1, h2, ks, h3.mono hb⟩
theorem OwnN.lt (h : OwnN F B w z t) {q : Nat} (hq : z.has q) : B ≤ q ∧ q < w.heap.size := by
  cases t with
  | leaf p l =>
    obtain ⟨h1, h2, vs, h3⟩ := h
    rcases hq with hq | hq | hq
    · exact h3.key.lt q hq
    · exact h3.val.lt q hq
    · exact h3.kid.lt q hq
  | branch p l =>
    obtain ⟨h1, h2, ks, h3⟩ := h
    rcases hq with hq | hq | hq
    · exact h3.key.lt q hq
    · exact h3.val.lt q hq
    · exact h3.kid.lt q hq
theorem OwnN.kept {P : Nat} (h : OwnN F B w z t) (hg : w.grownBy w' (some P)) (hP : ∀ q, z.has q → q ≠ P) (hF : ¬ F P) : OwnN F B w' z t := by
  have hk : ∀ {e : TypeId} {s n : Nat} {v : Value} {xs : List Value}, w.ownsRow B e s v n xs → (∀ q, v.ownBlock = some q → q ≠ P) → w'.ownsRow B e s v n xs := fun {e s n v xs} ho hne => by
    refine ho.kept hg ?_
    rcases hv : v.ownBlock with _ | q
    · exact .inl rfl
    · exact .inr (by intro e; injection e with e; exact hne q hv e)
  have hm : ∀ q, F q → q < w.heap.size → F q ∧ w'.heap[q]? = w.heap[q]? := fun q hq hl => ⟨hq, hg.block q hl (by intro e; injection e with e; subst e; exact hF hq)⟩
  cases t with
  | leaf p l =>
    obtain ⟨h1, h2, vs, h3⟩ := h
    exact ⟨h1, h2, vs, hk h3.key fun q hq => hP q (.inl hq), hk h3.val fun q hq => hP q (.inr (.inl hq)), hk h3.kid fun q hq => hP q (.inr (.inr hq)), h3.both.mono fun x y _ _ h => ⟨h.1, h.2.move hm⟩⟩
  | branch p l =>
    obtain ⟨h1, h2, ks, h3⟩ := h
    exact ⟨h1, h2, ks, hk h3.key fun q hq => hP q (.inl hq), hk h3.val fun q hq => hP q (.inr (.inl hq)), hk h3.kid fun q hq => hP q (.inr (.inr hq)), h3.both.mono fun x y _ _ h => RepT.move hm h⟩
theorem OwnN.keys (h : OwnN F B w z t) : w.ownsRow B 9 1 (.slice z.kA z.kn z.kc) z.kn ((keysT t).map strV) := by
  cases t with
  | leaf p l => obtain ⟨h1, h2, vs, h3⟩ := h; have := h3.key; unfold keysT; rw [List.map_map]; exact this
  | branch p l => obtain ⟨h1, h2, ks, h3⟩ := h; have := h3.key; unfold keysT; rw [List.map_map]; exact this
end
def dropT (n : Nat) : Tr → Tr
  | .leaf _ l => .leaf 0 (l.drop n)
  | .branch _ l => .branch 0 (l.drop n)
def NodW (F : Nat → Prop) (t : Tr) (w : World) (e : Ending) (w' : World) : Prop := ∃ z, e = .returned (ndV z) ∧ OwnN F w.heap.size w' z t ∧ Below w.heap.size w w'
def zeroN : Value := .agg #[.int .i64 0, .bool false, .slice none 0 0, .slice none 0 0, .slice none 0 0]
def cellsN : Tr → Nat
  | .leaf _ l => l.length
  | .branch _ l => l.length
theorem swap_front (F : Nat → Prop) (x : NDV) (t : Tr) (n : Nat) (w : World) (h : RepT F w x t) (hl : cellsN t ≤ 1000) (hn : n ≤ 1000) : Calls Try.prog 65 #[ndV x, .int .i64 (n : Int), .int .i64 9223372036854775807, zeroN] w (NodW F (frontT n t) w) := by
  cases t with
  | leaf p l =>
    obtain ⟨h1, h2, h3⟩ := repT_rowL.1 h
    have hl' : l.length ≤ 1000 := hl
    have hs := trSwap_leaf F x ⟨0, false, none, 0, 0, none, 0, 0, none, 0, 0⟩ l [] n 9223372036854775807 w h3 (row_zeroL _ _ _ _) hl' (by simp) (by omega) (by omega)
    refine hs.mono ?_
    rintro e w' ⟨z, vs, rfl, g1, g2, g3, g4⟩
    have e1 : swapL n 9223372036854775807 l [] = l.take n := by unfold swapL; rw [List.drop_of_length_le (by omega)]; simp
    rw [e1] at g3
    exact ⟨z, rfl, ⟨g1, g2.trans h2, vs, g3⟩, g4⟩
  | branch p l =>
    obtain ⟨h1, h2, h3⟩ := repT_rowB.1 h
    have hl' : l.length ≤ 1000 := hl
    have hs := trSwap_branch F x ⟨0, false, none, 0, 0, none, 0, 0, none, 0, 0⟩ l [] n 9223372036854775807 w h3 (row_zeroB _ _ _ _) hl' (by simp) (by omega) (by omega)
    refine hs.mono ?_
    rintro e w' ⟨z, ks, rfl, g1, g2, g3, g4⟩
    have e1 : swapL n 9223372036854775807 l [] = l.take n := by unfold swapL; rw [List.drop_of_length_le (by omega)]; simp
    rw [e1] at g3
    exact ⟨z, rfl, ⟨g1, g2.trans h2, ks, g3⟩, g4⟩
theorem swap_back (F : Nat → Prop) (x : NDV) (t : Tr) (n : Nat) (w : World) (h : RepT F w x t) (hl : cellsN t ≤ 1000) (hn : n ≤ 1000) : Calls Try.prog 65 #[ndV x, .int .i64 0, .int .i64 (n : Int), zeroN] w (NodW F (dropT n t) w) := by
  cases t with
  | leaf p l =>
    obtain ⟨h1, h2, h3⟩ := repT_rowL.1 h
    have hl' : l.length ≤ 1000 := hl
    have hs := trSwap_leaf F x ⟨0, false, none, 0, 0, none, 0, 0, none, 0, 0⟩ l [] 0 n w h3 (row_zeroL _ _ _ _) hl' (by simp) (by omega) (by omega)
    refine hs.mono ?_
    rintro e w' ⟨z, vs, rfl, g1, g2, g3, g4⟩
    have e1 : swapL 0 n l [] = l.drop n := by unfold swapL; simp
    rw [e1] at g3
    exact ⟨z, rfl, ⟨g1, g2.trans h2, vs, g3⟩, g4⟩
  | branch p l =>
    obtain ⟨h1, h2, h3⟩ := repT_rowB.1 h
    have hl' : l.length ≤ 1000 := hl
    have hs := trSwap_branch F x ⟨0, false, none, 0, 0, none, 0, 0, none, 0, 0⟩ l [] 0 n w h3 (row_zeroB _ _ _ _) hl' (by simp) (by omega) (by omega)
    refine hs.mono ?_
    rintro e w' ⟨z, ks, rfl, g1, g2, g3, g4⟩
    have e1 : swapL 0 n l [] = l.drop n := by unfold swapL; simp
    rw [e1] at g3
    exact ⟨z, rfl, ⟨g1, g2.trans h2, ks, g3⟩, g4⟩
theorem OwnN.blank {F : Nat → Prop} {B g : Nat} {w : World} {z : NDV} {p : Int} {l : List (List UInt8 × Tr)} (h : OwnN F B w z (.branch p l)) (hA : z.kA = some ⟨g, 0, none⟩) (hg : ¬ F g) :
    OwnN F B (w.setCell ⟨g, 0, none⟩ (.string ⟨#[]⟩)) z (.branch p (keyed [] l)) := by
  obtain ⟨h1, h2, ks, h3⟩ := h
  have hk := h3.key
  rw [hA] at hk
  have hs := (hk.stored 0 (.string ⟨#[]⟩)).1
  refine ⟨h1, h2, ks, ?_, own_other h3.val hk (by decide) 0 _, own_other h3.kid hk (by decide) 0 _, ?_⟩
  · have e : (l.map fun y => strV y.1).set 0 (.string ⟨#[]⟩) = (keyed [] l).map fun y => strV y.1 := by cases l <;> rfl
    rw [e] at hs
    rw [hA]
    exact hs
  · have hq : Both (fun e (y : List UInt8 × Tr) => RepT F (w.setCell ⟨g, 0, none⟩ (.string ⟨#[]⟩)) e y.2) ks l := h3.both.mono fun x y _ _ h => RepT.move (fun q hq hl => ⟨hq, Below.heap_setCell w ⟨g, 0, none⟩ _ q (fun e => hg (by have e2 : q = g := e; exact e2 ▸ hq))⟩) h
    cases l with
    | nil => exact hq
    | cons x l => exact ⟨hq.1, fun i a b h1 h2 => by
        cases i with
        | zero =>
          have h2' : some (([] : List UInt8), x.2) = some b := h2
          injection h2' with h2'
          subst h2'
          exact hq.2 0 a x h1 rfl
        | succ i => exact hq.2 (i + 1) a b h1 h2⟩
end Go.Proofs.Ytpaklhifnndeoaa
end

section
namespace Go.Proofs.Ytpaklhifnndeoaa
open Go.RowKit
set_option linter.unusedVariables false

inductive TopB : Tr → Prop where
  | leaf (p : Int) (l : List Lf) (h : BndN 50 (.leaf p l)) : TopB (.leaf p l)
  | branch (p : Int) (l : List (List UInt8 × Tr)) (h : BndN 50 (.branch p l)) (hk : ∀ x, l = [x] → TopB x.2) : TopB (.branch p l)
theorem TopB.bnd {t : Tr} (h : TopB t) : BndN 50 t := by cases h <;> assumption
theorem top_at {t : Tr} (h : ∀ p x, t ≠ .branch p [x]) : topT t = if atZ (sizesT t) = 0 then t else mendT 0 [([], t)] 0 := by
  cases t with
  | leaf p l => rw [topT]
  | branch p l =>
    match l, h with
    | [], _ => rw [topT] <;> simp
    | [x], h => exact absurd rfl (h p x)
    | x :: y :: l, _ => rw [topT] <;> simp
theorem top_one (p : Int) (x : List UInt8 × Tr) : topT (.branch p [x]) = topT x.2 := by rw [topT]
theorem even_one (x : List UInt8 × Tr) : evenT [x] := fun i j hi hj => by
  have h1 : i = 0 := by simpa using hi
  have h2 : j = 0 := by simpa using hj
  rw [h1, h2]
end Go.Proofs.Ytpaklhifnndeoaa
end

section
namespace Go.Proofs.Ytpaklhifnndeoaa
open Go.RowKit
set_option linter.unusedVariables false

/-! Put, its mathematics. -/
end Go.Proofs.Ytpaklhifnndeoaa
end
