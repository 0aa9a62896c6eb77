import Derived.Test.YtglkmpglpddfdaaGreatDoorJ26
import Derived.Laws.Bits64b
/- Of a claim's texts, joined: Cpru. No statement but in the last. -/
namespace Go.Proofs.YtglkmpglpddfdaaGreatDoor
open Go.RowKit
set_option linter.unusedVariables false

theorem argU_own5 {w : World} {base : Nat} {v : Value} {l : List Nat} (h : w.ownsRow base 37 1 v l.length (l.map u64V)) {i : Nat} (hi : i < l.length) : ∃ g k, v = .slice (some ⟨g, 0, none⟩) l.length k ∧ l.length ≤ k ∧ w.cell? ⟨g, i, none⟩ = some (.int .u64 (l[i] : Int)) ∧ base ≤ g ∧ w.frozen? ⟨g, i, none⟩ = false := by
  rcases h.2 with ⟨hv, hn⟩ | ⟨g, cap, cur, hv, hB, hg, h1, h2, _, hcur⟩
  · omega
  · refine ⟨g, cap, hv, h1, ?_, hB, Has.free (w := w) (g := g) (t := 37) (cs := cur) hg i⟩
    rw [Has.cell (w := w) (g := g) (t := 37) (cs := cur) hg]
    have : (l.map u64V)[i]? = some (.int .u64 (l[i] : Int)) := by simp [List.getElem?_eq_getElem hi, u64V]
    rw [← this, ← hcur, List.getElem?_take]
    simp
    omega
theorem PKx.setU {w : World} {base P ln en n k g kk : Nat} {vn vq vg : Value} {A : Option Addr} {l : List We} {c : Cf} {i x : Nat} (h : PKx w base P vn (.slice (some ⟨g, 0, none⟩) c.up.length kk) vq vg A n k c ln l en) :
    PKx (w.setCell ⟨g, i, none⟩ (.int .u64 (x : Int))) base P vn (.slice (some ⟨g, 0, none⟩) c.up.length kk) vq vg A n k { c with up := c.up.set i x } ln l en ∧ base ≤ g := by
  obtain ⟨h1, h2, h3, h4, h5, h6, h7⟩ := h
  have hs := h4.stored i (.int .u64 (x : Int))
  rcases h4.2 with ⟨hv, _⟩ | ⟨g', cap, cur, hv, hB, hg, _⟩
  · cases hv
  · injection hv with hv _ _
    injection hv with hv
    injection hv with hv
    subst hv
    have hgr : w.grownBy (w.setCell ⟨g, i, none⟩ (.int .u64 (x : Int))) (some g) := only_store (only_refl w g) i _
    refine ⟨⟨h1.grown hgr (by intro e; injection e with e; exact (Has.apart (w := w) (g := g) (t := 37) (cs := cur) hg h1 (by decide)) e.symm), h2, h3.kept hgr (own_sep h3 h4 (by decide)), ?_, h5.kept hgr (own_sep h5 h4 (by decide)), h6.kept hgr (own_sep h6 h4 (by decide)), h7.grown h4 (by decide) hgr⟩, hB⟩
    have := hs.1
    rw [List.length_set, List.map_set]
    exact this
theorem PKx.app3 {w w' : World} {base P ln en n k : Nat} {vn vu vq vg v' : Value} {A : Option Addr} {l : List We} {c : Cf} {x : G} (h : PKx w base P vn vu vq vg A n k c ln l en) (ho : w'.ownsRow base 45 3 v' (c.grants.length + 1) (cellsG c.grants ++ [.int .i64 x.a, .int .i64 x.f, .int .i64 x.t])) (hg : w.grownBy w' vg.ownBlock) :
    PKx (w'.setCell ⟨P, 3, none⟩ v') base P vn vu vq v' A n k { c with grants := c.grants ++ [x] } ln l en ∧ Has w' P 75 #[vn, vu, vq, vg, .int .i64 (ln : Int), .slice A n k, .int .i64 (en : Int)] := by
  obtain ⟨h1, h2, h3, h4, h5, h6, h7⟩ := h
  have k1 := has_grown h1 h6 hg (by decide)
  refine ⟨⟨?_, h2, own_store (h3.kept hg (own_sep h3 h6 (by decide))) k1 (by decide) _ _, own_store (h4.kept hg (own_sep h4 h6 (by decide))) k1 (by decide) _ _, own_store (h5.kept hg (own_sep h5 h6 (by decide))) k1 (by decide) _ _, own_store (by simpa [cellsG, gC] using ho) k1 (by decide) _ _, (h7.grown h6 (by decide) hg).set k1⟩, k1⟩
  have := k1.store 3 v'
  simpa using this
def orUp (c : Cf) (a b : Int) : Cf := { c with up := c.up.set a.toNat (c.up.getD a.toNat 0 ||| 2 ^ b.toNat) }
def apG (c : Cf) (g : G) : Cf := { c with grants := c.grants ++ [g] }
theorem find_nat {l : List (List UInt8)} {s : List UInt8} (h : ¬ findN l s < 0) : ∃ i : Nat, findN l s = (i : Int) ∧ i < l.length := by
  have := findN_lt (l := l) (s := s)
  exact ⟨(findN l s).toNat, by omega, by omega⟩
set_option maxRecDepth 100000 in
set_option maxHeartbeats 4000000 in
theorem line_u_nil1 {base P ln en : Nat} {c : Cf} {x0 : We} (w : World) (h : PK w base P c ln (x0 :: []) en) (hb : base ≤ w.heap.size) (hbg : ∀ w', Below base w w' → Base5 w') (hn : c.names.length ≤ 64) (hk : x0.1 = undT) :
    Calls Tryz.prog 48 #[.pointer (some ⟨P, 0, none⟩)] w (FailEnd ln x0.2.2 base w) := by
  have HT := Lib.hid (take_cons w h hb)
  obtain ⟨t, a, b⟩ := x0
  simp only at hk
  subst hk
  unfold undT at HT
  have HK2 := Lib.hid (fun w1 h1 h2 => known_nil (base := base) (P := P) (ln := ln) (en := b) (c := c) w1 h1 h2)
  clear h hbg
  go_enter Tryz.func48, Tryz.ntmps48
  go_wp2_with (first | (go_at_call 81; (with_reducible refine (HK2.out _ P1.out S1.out).mono ?_); rintro e w2 ⟨rfl, h1⟩; have B2 := Lib.hid (B1.out.trans h1); clear h1) | (go_at_call 79; (with_reducible refine HT.out.mono ?_); rintro e w1 ⟨rfl, h1, h2, hg1⟩; have B1 := Lib.hid (h2.alloc (Nat.le_trans hb h2.size) (.cells #[.string ⟨([117, 110, 100, 101, 114] : List UInt8).toArray⟩, .int .i64 (a : Int), .int .i64 (b : Int)] 119)); have P1 := Lib.hid (h1.below ((Below.refl _ w1).alloc (Nat.le_refl _) (.cells #[.string ⟨([117, 110, 100, 101, 114] : List UInt8).toArray⟩, .int .i64 (a : Int), .int .i64 (b : Int)] 119))); have S1 := Lib.hid (Nat.le_trans hb B1.out.size); have c4 := pk_line P1.out; clear h1 h2 hg1))
  exact ⟨rfl, rfl, B2.out⟩
set_option maxRecDepth 100000 in
set_option maxHeartbeats 4000000 in
theorem line_u_bad1 {base P ln en : Nat} {c : Cf} {x0 x : We} {l : List We} (w : World) (h : PK w base P c ln (x0 :: x :: l) en) (hb : base ≤ w.heap.size) (hbg : ∀ w', Below base w w' → Base5 w') (hn : c.names.length ≤ 64) (hk : x0.1 = undT) (hx : findN c.names x.1 < 0) :
    Calls Tryz.prog 48 #[.pointer (some ⟨P, 0, none⟩)] w (FailEnd ln x.2.1 base w) := by
  have HT := Lib.hid (take_cons w h hb)
  obtain ⟨t, a, b⟩ := x0
  simp only at hk
  subst hk
  unfold undT at HT
  have HK2 := Lib.hid (fun w1 h1 h2 => known_bad (base := base) (P := P) (ln := ln) (en := b) (c := c) (x := x) (l := l) w1 h1 h2 (by omega) hx)
  clear h hbg
  go_enter Tryz.func48, Tryz.ntmps48
  go_wp2_with (first | (go_at_call 81; (with_reducible refine (HK2.out _ P1.out S1.out).mono ?_); rintro e w2 ⟨rfl, h1⟩; have B2 := Lib.hid (B1.out.trans h1); clear h1) | (go_at_call 79; (with_reducible refine HT.out.mono ?_); rintro e w1 ⟨rfl, h1, h2, hg1⟩; have B1 := Lib.hid (h2.alloc (Nat.le_trans hb h2.size) (.cells #[.string ⟨([117, 110, 100, 101, 114] : List UInt8).toArray⟩, .int .i64 (a : Int), .int .i64 (b : Int)] 119)); have P1 := Lib.hid (h1.below ((Below.refl _ w1).alloc (Nat.le_refl _) (.cells #[.string ⟨([117, 110, 100, 101, 114] : List UInt8).toArray⟩, .int .i64 (a : Int), .int .i64 (b : Int)] 119))); have S1 := Lib.hid (Nat.le_trans hb B1.out.size); have c4 := pk_line P1.out; clear h1 h2 hg1))
  exact ⟨rfl, rfl, B2.out⟩
set_option maxRecDepth 100000 in
set_option maxHeartbeats 4000000 in
theorem line_u_nil2 {base P ln en : Nat} {c : Cf} {x0 x : We} (w : World) (h : PK w base P c ln (x0 :: [x]) en) (hb : base ≤ w.heap.size) (hbg : ∀ w', Below base w w' → Base5 w') (hn : c.names.length ≤ 64) (hk : x0.1 = undT) (hx : ¬ findN c.names x.1 < 0) :
    Calls Tryz.prog 48 #[.pointer (some ⟨P, 0, none⟩)] w (FailEnd ln x.2.2 base w) := by
  have HT := Lib.hid (take_cons w h hb)
  obtain ⟨t, a, b⟩ := x0
  simp only at hk
  subst hk
  unfold undT at HT
  have HK2 := Lib.hid (fun w1 h1 h2 => known_good (base := base) (P := P) (ln := ln) (en := b) (c := c) (x := x) (l := ([])) w1 h1 h2 (by omega) hx)
  obtain ⟨i, ei, li⟩ := find_nat hx
  rw [ei] at HK2
  have HK3 := Lib.hid (fun w1 h1 h2 => known_nil (base := base) (P := P) (ln := ln) (en := x.2.2) (c := c) w1 h1 h2)
  clear h hbg
  go_enter Tryz.func48, Tryz.ntmps48
  go_wp2_with (first | (go_at_call 81; (with_reducible refine (HK3.out _ P2.out S2.out).mono ?_); rintro e w3 ⟨rfl, h1⟩; have B3 := Lib.hid (B2.out.trans h1); clear h1) | (go_at_call 81; (with_reducible refine (HK2.out _ P1.out S1.out).mono ?_); rintro e w2 ⟨rfl, h1, h2⟩; have B2 := Lib.hid (B1.out.trans h2); have P2 := Lib.hid h1; have S2 := Lib.hid (Nat.le_trans hb B2.out.size); clear h1 h2) | (go_at_call 79; (with_reducible refine HT.out.mono ?_); rintro e w1 ⟨rfl, h1, h2, hg1⟩; have B1 := Lib.hid (h2.alloc (Nat.le_trans hb h2.size) (.cells #[.string ⟨([117, 110, 100, 101, 114] : List UInt8).toArray⟩, .int .i64 (a : Int), .int .i64 (b : Int)] 119)); have P1 := Lib.hid (h1.below ((Below.refl _ w1).alloc (Nat.le_refl _) (.cells #[.string ⟨([117, 110, 100, 101, 114] : List UInt8).toArray⟩, .int .i64 (a : Int), .int .i64 (b : Int)] 119))); have S1 := Lib.hid (Nat.le_trans hb B1.out.size); have c4 := pk_line P1.out; clear h1 h2 hg1))
  exact ⟨rfl, rfl, B3.out⟩
set_option maxRecDepth 100000 in
set_option maxHeartbeats 4000000 in
theorem line_u_bad2 {base P ln en : Nat} {c : Cf} {x0 x y : We} {l : List We} (w : World) (h : PK w base P c ln (x0 :: x :: y :: l) en) (hb : base ≤ w.heap.size) (hbg : ∀ w', Below base w w' → Base5 w') (hn : c.names.length ≤ 64) (hk : x0.1 = undT) (hx : ¬ findN c.names x.1 < 0) (hy : findN c.names y.1 < 0) :
    Calls Tryz.prog 48 #[.pointer (some ⟨P, 0, none⟩)] w (FailEnd ln y.2.1 base w) := by
  have HT := Lib.hid (take_cons w h hb)
  obtain ⟨t, a, b⟩ := x0
  simp only at hk
  subst hk
  unfold undT at HT
  have HK2 := Lib.hid (fun w1 h1 h2 => known_good (base := base) (P := P) (ln := ln) (en := b) (c := c) (x := x) (l := (y :: l)) w1 h1 h2 (by omega) hx)
  obtain ⟨i, ei, li⟩ := find_nat hx
  rw [ei] at HK2
  have HK3 := Lib.hid (fun w1 h1 h2 => known_bad (base := base) (P := P) (ln := ln) (en := x.2.2) (c := c) (x := y) (l := l) w1 h1 h2 (by omega) hy)
  clear h hbg
  go_enter Tryz.func48, Tryz.ntmps48
  go_wp2_with (first | (go_at_call 81; (with_reducible refine (HK3.out _ P2.out S2.out).mono ?_); rintro e w3 ⟨rfl, h1⟩; have B3 := Lib.hid (B2.out.trans h1); clear h1) | (go_at_call 81; (with_reducible refine (HK2.out _ P1.out S1.out).mono ?_); rintro e w2 ⟨rfl, h1, h2⟩; have B2 := Lib.hid (B1.out.trans h2); have P2 := Lib.hid h1; have S2 := Lib.hid (Nat.le_trans hb B2.out.size); clear h1 h2) | (go_at_call 79; (with_reducible refine HT.out.mono ?_); rintro e w1 ⟨rfl, h1, h2, hg1⟩; have B1 := Lib.hid (h2.alloc (Nat.le_trans hb h2.size) (.cells #[.string ⟨([117, 110, 100, 101, 114] : List UInt8).toArray⟩, .int .i64 (a : Int), .int .i64 (b : Int)] 119)); have P1 := Lib.hid (h1.below ((Below.refl _ w1).alloc (Nat.le_refl _) (.cells #[.string ⟨([117, 110, 100, 101, 114] : List UInt8).toArray⟩, .int .i64 (a : Int), .int .i64 (b : Int)] 119))); have S1 := Lib.hid (Nat.le_trans hb B1.out.size); have c4 := pk_line P1.out; clear h1 h2 hg1))
  exact ⟨rfl, rfl, B3.out⟩
set_option maxRecDepth 100000 in
set_option maxHeartbeats 4000000 in
theorem line_g_nil1 {base P ln en : Nat} {c : Cf} {x0 : We} (w : World) (h : PK w base P c ln (x0 :: []) en) (hb : base ≤ w.heap.size) (hbg : ∀ w', Below base w w' → Base5 w') (hn : c.names.length ≤ 64) (hk : x0.1 = grnT) :
    Calls Tryz.prog 48 #[.pointer (some ⟨P, 0, none⟩)] w (FailEnd ln x0.2.2 base w) := by
  have HT := Lib.hid (take_cons w h hb)
  obtain ⟨t, a, b⟩ := x0
  simp only at hk
  subst hk
  unfold grnT at HT
  have HK2 := Lib.hid (fun w1 h1 h2 => known_nil (base := base) (P := P) (ln := ln) (en := b) (c := c) w1 h1 h2)
  clear h hbg
  go_enter Tryz.func48, Tryz.ntmps48
  go_wp2_with (first | (go_at_call 81; (with_reducible refine (HK2.out _ P1.out S1.out).mono ?_); rintro e w2 ⟨rfl, h1⟩; have B2 := Lib.hid (B1.out.trans h1); clear h1) | (go_at_call 79; (with_reducible refine HT.out.mono ?_); rintro e w1 ⟨rfl, h1, h2, hg1⟩; have B1 := Lib.hid (h2.alloc (Nat.le_trans hb h2.size) (.cells #[.string ⟨([103, 114, 97, 110, 116] : List UInt8).toArray⟩, .int .i64 (a : Int), .int .i64 (b : Int)] 119)); have P1 := Lib.hid (h1.below ((Below.refl _ w1).alloc (Nat.le_refl _) (.cells #[.string ⟨([103, 114, 97, 110, 116] : List UInt8).toArray⟩, .int .i64 (a : Int), .int .i64 (b : Int)] 119))); have S1 := Lib.hid (Nat.le_trans hb B1.out.size); have c4 := pk_line P1.out; clear h1 h2 hg1))
  exact ⟨rfl, rfl, B2.out⟩
set_option maxRecDepth 100000 in
set_option maxHeartbeats 4000000 in
theorem line_g_bad1 {base P ln en : Nat} {c : Cf} {x0 x : We} {l : List We} (w : World) (h : PK w base P c ln (x0 :: x :: l) en) (hb : base ≤ w.heap.size) (hbg : ∀ w', Below base w w' → Base5 w') (hn : c.names.length ≤ 64) (hk : x0.1 = grnT) (hx : findN c.names x.1 < 0) :
    Calls Tryz.prog 48 #[.pointer (some ⟨P, 0, none⟩)] w (FailEnd ln x.2.1 base w) := by
  have HT := Lib.hid (take_cons w h hb)
  obtain ⟨t, a, b⟩ := x0
  simp only at hk
  subst hk
  unfold grnT at HT
  have HK2 := Lib.hid (fun w1 h1 h2 => known_bad (base := base) (P := P) (ln := ln) (en := b) (c := c) (x := x) (l := l) w1 h1 h2 (by omega) hx)
  clear h hbg
  go_enter Tryz.func48, Tryz.ntmps48
  go_wp2_with (first | (go_at_call 81; (with_reducible refine (HK2.out _ P1.out S1.out).mono ?_); rintro e w2 ⟨rfl, h1⟩; have B2 := Lib.hid (B1.out.trans h1); clear h1) | (go_at_call 79; (with_reducible refine HT.out.mono ?_); rintro e w1 ⟨rfl, h1, h2, hg1⟩; have B1 := Lib.hid (h2.alloc (Nat.le_trans hb h2.size) (.cells #[.string ⟨([103, 114, 97, 110, 116] : List UInt8).toArray⟩, .int .i64 (a : Int), .int .i64 (b : Int)] 119)); have P1 := Lib.hid (h1.below ((Below.refl _ w1).alloc (Nat.le_refl _) (.cells #[.string ⟨([103, 114, 97, 110, 116] : List UInt8).toArray⟩, .int .i64 (a : Int), .int .i64 (b : Int)] 119))); have S1 := Lib.hid (Nat.le_trans hb B1.out.size); have c4 := pk_line P1.out; clear h1 h2 hg1))
  exact ⟨rfl, rfl, B2.out⟩
set_option maxRecDepth 100000 in
set_option maxHeartbeats 4000000 in
theorem line_g_nil2 {base P ln en : Nat} {c : Cf} {x0 x : We} (w : World) (h : PK w base P c ln (x0 :: [x]) en) (hb : base ≤ w.heap.size) (hbg : ∀ w', Below base w w' → Base5 w') (hn : c.names.length ≤ 64) (hk : x0.1 = grnT) (hx : ¬ findN c.names x.1 < 0) :
    Calls Tryz.prog 48 #[.pointer (some ⟨P, 0, none⟩)] w (FailEnd ln x.2.2 base w) := by
  have HT := Lib.hid (take_cons w h hb)
  obtain ⟨t, a, b⟩ := x0
  simp only at hk
  subst hk
  unfold grnT at HT
  have HK2 := Lib.hid (fun w1 h1 h2 => known_good (base := base) (P := P) (ln := ln) (en := b) (c := c) (x := x) (l := ([])) w1 h1 h2 (by omega) hx)
  obtain ⟨i, ei, li⟩ := find_nat hx
  rw [ei] at HK2
  have HK3 := Lib.hid (fun w1 h1 h2 => known_nil (base := base) (P := P) (ln := ln) (en := x.2.2) (c := c) w1 h1 h2)
  clear h hbg
  go_enter Tryz.func48, Tryz.ntmps48
  go_wp2_with (first | (go_at_call 81; (with_reducible refine (HK3.out _ P2.out S2.out).mono ?_); rintro e w3 ⟨rfl, h1⟩; have B3 := Lib.hid (B2.out.trans h1); clear h1) | (go_at_call 81; (with_reducible refine (HK2.out _ P1.out S1.out).mono ?_); rintro e w2 ⟨rfl, h1, h2⟩; have B2 := Lib.hid (B1.out.trans h2); have P2 := Lib.hid h1; have S2 := Lib.hid (Nat.le_trans hb B2.out.size); clear h1 h2) | (go_at_call 79; (with_reducible refine HT.out.mono ?_); rintro e w1 ⟨rfl, h1, h2, hg1⟩; have B1 := Lib.hid (h2.alloc (Nat.le_trans hb h2.size) (.cells #[.string ⟨([103, 114, 97, 110, 116] : List UInt8).toArray⟩, .int .i64 (a : Int), .int .i64 (b : Int)] 119)); have P1 := Lib.hid (h1.below ((Below.refl _ w1).alloc (Nat.le_refl _) (.cells #[.string ⟨([103, 114, 97, 110, 116] : List UInt8).toArray⟩, .int .i64 (a : Int), .int .i64 (b : Int)] 119))); have S1 := Lib.hid (Nat.le_trans hb B1.out.size); have c4 := pk_line P1.out; clear h1 h2 hg1))
  exact ⟨rfl, rfl, B3.out⟩
set_option maxRecDepth 100000 in
set_option maxHeartbeats 4000000 in
theorem line_g_bad2 {base P ln en : Nat} {c : Cf} {x0 x y : We} {l : List We} (w : World) (h : PK w base P c ln (x0 :: x :: y :: l) en) (hb : base ≤ w.heap.size) (hbg : ∀ w', Below base w w' → Base5 w') (hn : c.names.length ≤ 64) (hk : x0.1 = grnT) (hx : ¬ findN c.names x.1 < 0) (hy : findN c.names y.1 < 0) :
    Calls Tryz.prog 48 #[.pointer (some ⟨P, 0, none⟩)] w (FailEnd ln y.2.1 base w) := by
  have HT := Lib.hid (take_cons w h hb)
  obtain ⟨t, a, b⟩ := x0
  simp only at hk
  subst hk
  unfold grnT at HT
  have HK2 := Lib.hid (fun w1 h1 h2 => known_good (base := base) (P := P) (ln := ln) (en := b) (c := c) (x := x) (l := (y :: l)) w1 h1 h2 (by omega) hx)
  obtain ⟨i, ei, li⟩ := find_nat hx
  rw [ei] at HK2
  have HK3 := Lib.hid (fun w1 h1 h2 => known_bad (base := base) (P := P) (ln := ln) (en := x.2.2) (c := c) (x := y) (l := l) w1 h1 h2 (by omega) hy)
  clear h hbg
  go_enter Tryz.func48, Tryz.ntmps48
  go_wp2_with (first | (go_at_call 81; (with_reducible refine (HK3.out _ P2.out S2.out).mono ?_); rintro e w3 ⟨rfl, h1⟩; have B3 := Lib.hid (B2.out.trans h1); clear h1) | (go_at_call 81; (with_reducible refine (HK2.out _ P1.out S1.out).mono ?_); rintro e w2 ⟨rfl, h1, h2⟩; have B2 := Lib.hid (B1.out.trans h2); have P2 := Lib.hid h1; have S2 := Lib.hid (Nat.le_trans hb B2.out.size); clear h1 h2) | (go_at_call 79; (with_reducible refine HT.out.mono ?_); rintro e w1 ⟨rfl, h1, h2, hg1⟩; have B1 := Lib.hid (h2.alloc (Nat.le_trans hb h2.size) (.cells #[.string ⟨([103, 114, 97, 110, 116] : List UInt8).toArray⟩, .int .i64 (a : Int), .int .i64 (b : Int)] 119)); have P1 := Lib.hid (h1.below ((Below.refl _ w1).alloc (Nat.le_refl _) (.cells #[.string ⟨([103, 114, 97, 110, 116] : List UInt8).toArray⟩, .int .i64 (a : Int), .int .i64 (b : Int)] 119))); have S1 := Lib.hid (Nat.le_trans hb B1.out.size); have c4 := pk_line P1.out; clear h1 h2 hg1))
  exact ⟨rfl, rfl, B3.out⟩
set_option maxRecDepth 100000 in
set_option maxHeartbeats 4000000 in
theorem line_g_nil3 {base P ln en : Nat} {c : Cf} {x0 x y : We} (w : World) (h : PK w base P c ln (x0 :: [x, y]) en) (hb : base ≤ w.heap.size) (hbg : ∀ w', Below base w w' → Base5 w') (hn : c.names.length ≤ 64) (hk : x0.1 = grnT) (hx : ¬ findN c.names x.1 < 0) (hy : ¬ findN c.names y.1 < 0) :
    Calls Tryz.prog 48 #[.pointer (some ⟨P, 0, none⟩)] w (FailEnd ln y.2.2 base w) := by
  have HT := Lib.hid (take_cons w h hb)
  obtain ⟨t, a, b⟩ := x0
  simp only at hk
  subst hk
  unfold grnT at HT
  have HK2 := Lib.hid (fun w1 h1 h2 => known_good (base := base) (P := P) (ln := ln) (en := b) (c := c) (x := x) (l := (y :: [])) w1 h1 h2 (by omega) hx)
  obtain ⟨i, ei, li⟩ := find_nat hx
  rw [ei] at HK2
  have HK3 := Lib.hid (fun w1 h1 h2 => known_good (base := base) (P := P) (ln := ln) (en := x.2.2) (c := c) (x := y) (l := ([])) w1 h1 h2 (by omega) hy)
  obtain ⟨j, ej, lj⟩ := find_nat hy
  rw [ej] at HK3
  have HK4 := Lib.hid (fun w1 h1 h2 => known_nil (base := base) (P := P) (ln := ln) (en := y.2.2) (c := c) w1 h1 h2)
  clear h hbg
  go_enter Tryz.func48, Tryz.ntmps48
  go_wp2_with (first | (go_at_call 81; (with_reducible refine (HK4.out _ P3.out S3.out).mono ?_); rintro e w4 ⟨rfl, h1⟩; have B4 := Lib.hid (B3.out.trans h1); clear h1) | (go_at_call 81; (with_reducible refine (HK3.out _ P2.out S2.out).mono ?_); rintro e w3 ⟨rfl, h1, h2⟩; have B3 := Lib.hid (B2.out.trans h2); have P3 := Lib.hid h1; have S3 := Lib.hid (Nat.le_trans hb B3.out.size); clear h1 h2) | (go_at_call 81; (with_reducible refine (HK2.out _ P1.out S1.out).mono ?_); rintro e w2 ⟨rfl, h1, h2⟩; have B2 := Lib.hid (B1.out.trans h2); have P2 := Lib.hid h1; have S2 := Lib.hid (Nat.le_trans hb B2.out.size); clear h1 h2) | (go_at_call 79; (with_reducible refine HT.out.mono ?_); rintro e w1 ⟨rfl, h1, h2, hg1⟩; have B1 := Lib.hid (h2.alloc (Nat.le_trans hb h2.size) (.cells #[.string ⟨([103, 114, 97, 110, 116] : List UInt8).toArray⟩, .int .i64 (a : Int), .int .i64 (b : Int)] 119)); have P1 := Lib.hid (h1.below ((Below.refl _ w1).alloc (Nat.le_refl _) (.cells #[.string ⟨([103, 114, 97, 110, 116] : List UInt8).toArray⟩, .int .i64 (a : Int), .int .i64 (b : Int)] 119))); have S1 := Lib.hid (Nat.le_trans hb B1.out.size); have c4 := pk_line P1.out; clear h1 h2 hg1))
  exact ⟨rfl, rfl, B4.out⟩
set_option maxRecDepth 100000 in
set_option maxHeartbeats 4000000 in
theorem line_g_bad3 {base P ln en : Nat} {c : Cf} {x0 x y z : We} {l : List We} (w : World) (h : PK w base P c ln (x0 :: x :: y :: z :: l) en) (hb : base ≤ w.heap.size) (hbg : ∀ w', Below base w w' → Base5 w') (hn : c.names.length ≤ 64) (hk : x0.1 = grnT) (hx : ¬ findN c.names x.1 < 0) (hy : ¬ findN c.names y.1 < 0) (hz : findN c.names z.1 < 0) :
    Calls Tryz.prog 48 #[.pointer (some ⟨P, 0, none⟩)] w (FailEnd ln z.2.1 base w) := by
  have HT := Lib.hid (take_cons w h hb)
  obtain ⟨t, a, b⟩ := x0
  simp only at hk
  subst hk
  unfold grnT at HT
  have HK2 := Lib.hid (fun w1 h1 h2 => known_good (base := base) (P := P) (ln := ln) (en := b) (c := c) (x := x) (l := (y :: z :: l)) w1 h1 h2 (by omega) hx)
  obtain ⟨i, ei, li⟩ := find_nat hx
  rw [ei] at HK2
  have HK3 := Lib.hid (fun w1 h1 h2 => known_good (base := base) (P := P) (ln := ln) (en := x.2.2) (c := c) (x := y) (l := (z :: l)) w1 h1 h2 (by omega) hy)
  obtain ⟨j, ej, lj⟩ := find_nat hy
  rw [ej] at HK3
  have HK4 := Lib.hid (fun w1 h1 h2 => known_bad (base := base) (P := P) (ln := ln) (en := y.2.2) (c := c) (x := z) (l := l) w1 h1 h2 (by omega) hz)
  clear h hbg
  go_enter Tryz.func48, Tryz.ntmps48
  go_wp2_with (first | (go_at_call 81; (with_reducible refine (HK4.out _ P3.out S3.out).mono ?_); rintro e w4 ⟨rfl, h1⟩; have B4 := Lib.hid (B3.out.trans h1); clear h1) | (go_at_call 81; (with_reducible refine (HK3.out _ P2.out S2.out).mono ?_); rintro e w3 ⟨rfl, h1, h2⟩; have B3 := Lib.hid (B2.out.trans h2); have P3 := Lib.hid h1; have S3 := Lib.hid (Nat.le_trans hb B3.out.size); clear h1 h2) | (go_at_call 81; (with_reducible refine (HK2.out _ P1.out S1.out).mono ?_); rintro e w2 ⟨rfl, h1, h2⟩; have B2 := Lib.hid (B1.out.trans h2); have P2 := Lib.hid h1; have S2 := Lib.hid (Nat.le_trans hb B2.out.size); clear h1 h2) | (go_at_call 79; (with_reducible refine HT.out.mono ?_); rintro e w1 ⟨rfl, h1, h2, hg1⟩; have B1 := Lib.hid (h2.alloc (Nat.le_trans hb h2.size) (.cells #[.string ⟨([103, 114, 97, 110, 116] : List UInt8).toArray⟩, .int .i64 (a : Int), .int .i64 (b : Int)] 119)); have P1 := Lib.hid (h1.below ((Below.refl _ w1).alloc (Nat.le_refl _) (.cells #[.string ⟨([103, 114, 97, 110, 116] : List UInt8).toArray⟩, .int .i64 (a : Int), .int .i64 (b : Int)] 119))); have S1 := Lib.hid (Nat.le_trans hb B1.out.size); have c4 := pk_line P1.out; clear h1 h2 hg1))
  exact ⟨rfl, rfl, B4.out⟩

end Go.Proofs.YtglkmpglpddfdaaGreatDoor
