import Derived.Test.YtglkmpglpddfdaaGreatDoorJCof
import Derived.Test.YtglkmpglpddfdaaGreatDoorJ13
/- Of a claim's texts, joined: Sam Shom. No statement but in the last. -/
section
namespace Go.Proofs.YtglkmpglpddfdaaGreatDoor
open Go.RowKit
set_option linter.unusedVariables false

set_option maxHeartbeats 1000000 in
theorem r3Ints_z (l : List Int) (A B : Option Addr) (n c c' : Nat) (w : World) (hn : n = l.length) (ha : Reads w A (l.map (Value.int .i64))) (hb : Reads w B (l.map (Value.int .i64))) (hl : n ≤ 1000000) :
    Calls Tryz.prog 28 #[.slice A n c, .slice B n c'] w fun e w' => e = .returned (.bool true) ∧ Below w.heap.size w w' := by
  have HN := Lib.hid hn
  have HA := Lib.hid ha
  have HB := Lib.hid hb
  clear hn ha hb
  go_enter Tryz.func28, Tryz.ntmps28
  go_wp2
  go_loopw [5] (fun i wr => ∃ k : Nat, k ≤ n ∧ i = .int .i64 k ∧ Below w.heap.size w wr) (fun i _ => n - (intOf i).toNat)
  case atStart => exact ⟨0, Nat.zero_le _, rfl, Below.refl _ _⟩
  case round =>
    obtain ⟨k, hk, rfl, hB⟩ := hrel
    have BW := Lib.hid hB
    clear hB
    by_cases hlt : k < n
    · have hkl : k < l.length := by have := HN.out; omega
      obtain ⟨g1, o1, rfl, c1⟩ := (HA.out.keep_ BW.out).zint hkl
      obtain ⟨g2, o2, rfl, c2⟩ := (HB.out.keep_ BW.out).zint hkl
      generalize l[k] = x at c1 c2
      have i0 : (0 : Int) ≤ (k : Int) := by omega
      have i1 : (k : Int) < (n : Int) := by omega
      clear hkl
      go_wp2
      go_region
      all_goals
        go_wp2
        go_roundw
        case rel => exact ⟨k + 1, by omega, by go_num, BW.out.drew⟩
        case measure => simp [intOf]; omega
    · obtain rfl : k = n := by omega
      obtain ⟨w3, hw3⟩ : ∃ w3 : World, w3 = wr := ⟨_, rfl⟩
      subst hw3
      go_wp2
      go_ret
      exact ⟨rfl, BW.out⟩

set_option maxRecDepth 100000 in
set_option maxHeartbeats 2000000 in
theorem r5Same_same (c : Cf) (s t : Cs) (w : World) (h : ArgC w s c) (k : ArgC w t c) (h1 : c.names.length ≤ 1000000) (h2 : c.up.length ≤ 1000000) (h3 : c.quotas.length ≤ 1000000) (h4 : c.grants.length ≤ 1000000) :
    Calls Tryz.prog 9 #[s.v, t.v] w (BoolEnd true w) := by
  have e1 : t.nn = s.nn := by rw [h.names.len, k.names.len]
  have e2 : t.qn = s.qn := by rw [h.quotas.len, k.quotas.len]
  have e3 : t.un = s.un := by rw [h.up.len, k.up.len]
  have e4 : t.gn = s.gn := by rw [h.grants.len, k.grants.len]
  have HH := Lib.hid h
  have HK := Lib.hid k
  have hn1 : s.nn ≤ 1000000 := by rw [h.names.len]; exact h1
  have hq1 : s.qn ≤ 1000000 := by rw [h.quotas.len]; exact h3
  have HU := Lib.hid (fun w1 (hb : Below w.heap.size w w1) => r3Same_any c.up c.up s.uA t.uA s.un s.uc t.un t.uc w1 h.up.len k.up.len (h.below hb).up.reads (k.below hb).up.reads (by rw [h.up.len]; exact h2))
  have HG := Lib.hid (fun w1 (hb : Below w.heap.size w w1) => r4Same_any s.gA t.gA s.gn s.gc t.gn t.gc c.grants c.grants w1 (h.below hb).grants (k.below hb).grants (by rw [h.grants.len]; exact h4))
  have HQ := Lib.hid (fun w1 (hb : Below w.heap.size w w1) => r3Ints_z c.quotas s.qA t.qA s.qn s.qc t.qc w1 h.quotas.len (h.below hb).quotas.reads (k.below hb).quotas.reads hq1)
  unfold Cs.v
  obtain ⟨nA, nn, nc, uA, un, uc, qA, qn, qc, gA, gn, gc⟩ := s
  obtain ⟨nA', nn', nc', uA', un', uc', qA', qn', qc', gA', gn', gc'⟩ := t
  simp only at e1 e2 e3 e4
  subst e1 e2 e3 e4
  simp only at HH HK HU HG HQ hn1 hq1 ⊢
  clear h k
  simp only [decide_true] at HU HG
  obtain ⟨W, hW⟩ : ∃ W, (w.alloc (.cells #[.slice nA nn' nc, .slice uA un' uc, .slice qA qn' qc, .slice gA gn' gc] 28)).alloc (.cells #[.slice nA' nn' nc', .slice uA' un' uc', .slice qA' qn' qc', .slice gA' gn' gc'] 28) = W := ⟨_, rfl⟩
  have hB0 : Below w.heap.size w W := hW ▸ ((Below.refl _ w).alloc (Nat.le_refl _) _).alloc (by simp) _
  have hx1 : Has W w.heap.size 28 #[.slice nA nn' nc, .slice uA un' uc, .slice qA qn' qc, .slice gA gn' gc] := hW ▸ (Has.made w 28 #[.slice nA nn' nc, .slice uA un' uc, .slice qA qn' qc, .slice gA gn' gc]).alloc _
  have hx2 : Has W (w.heap.size + 1) 28 #[.slice nA' nn' nc', .slice uA' un' uc', .slice qA' qn' qc', .slice gA' gn' gc'] := by
    have := Has.made (w.alloc (.cells #[.slice nA nn' nc, .slice uA un' uc, .slice qA qn' qc, .slice gA gn' gc] 28)) 28 #[.slice nA' nn' nc', .slice uA' un' uc', .slice qA' qn' qc', .slice gA' gn' gc']
    rw [hW] at this
    simpa using this
  have HX := Lib.hid (fun W' (hb : Below W.heap.size W W') => show (W'.cell? ⟨w.heap.size, 0, none⟩ = some (.slice nA nn' nc) ∧ W'.cell? ⟨w.heap.size, 1, none⟩ = some (.slice uA un' uc) ∧ W'.cell? ⟨w.heap.size, 2, none⟩ = some (.slice qA qn' qc) ∧ W'.cell? ⟨w.heap.size, 3, none⟩ = some (.slice gA gn' gc)) ∧
      (W'.cell? ⟨w.heap.size + 1, 0, none⟩ = some (.slice nA' nn' nc') ∧ W'.cell? ⟨w.heap.size + 1, 1, none⟩ = some (.slice uA' un' uc') ∧ W'.cell? ⟨w.heap.size + 1, 2, none⟩ = some (.slice qA' qn' qc') ∧ W'.cell? ⟨w.heap.size + 1, 3, none⟩ = some (.slice gA' gn' gc')) by
    have k1 := hx1.below hb hx1.lt
    have k2 := hx2.below hb hx2.lt
    rw [k1.cell, k1.cell, k1.cell, k1.cell, k2.cell, k2.cell, k2.cell, k2.cell]
    simp)
  have HB0 := Lib.hid hB0
  clear hx1 hx2 hB0
  obtain ⟨⟨b0, b1, b2, b3⟩, d0, d1, d2, d3⟩ := HX.out W (Below.refl _ _)
  have hmx : Tryz.prog.follows .mixedOrders = true := by kernel_rfl
  go_enter Tryz.func9, Tryz.ntmps9
  go_wp2_with (first
    | (go_at_call 26; (with_reducible refine (HU.out _ HB0.out).mono ?_); rintro e w1 ⟨rfl, h1⟩; have B1 := Lib.hid (below_step HB0.out h1); have R1 := Lib.hid h1; clear b0 b1 b2 b3 d0 d1 d2 d3; obtain ⟨⟨b0, b1, b2, b3⟩, d0, d1, d2, d3⟩ := HX.out _ R1.out; clear h1)
    | (go_at_call 27; (with_reducible refine (HG.out _ B1.out).mono ?_); rintro e w2 ⟨rfl, h1⟩; have B2 := Lib.hid (below_step B1.out h1); have R2 := Lib.hid (below_step R1.out h1); clear b0 b1 b2 b3 d0 d1 d2 d3; obtain ⟨⟨b0, b1, b2, b3⟩, d0, d1, d2, d3⟩ := HX.out _ R2.out; clear h1)
    | (go_at_call 28; (with_reducible refine (HQ.out _ B2.out).mono ?_); rintro e w3 ⟨rfl, h1⟩; have B3 := Lib.hid (below_step B2.out h1); have R3 := Lib.hid (below_step R2.out h1); clear b0 b1 b2 b3 d0 d1 d2 d3; clear h1))
  go_loopw [5] (fun i wr => ∃ k : Nat, k ≤ nn' ∧ i = .int .i64 k ∧ Below w.heap.size w wr ∧ Below W.heap.size W wr) (fun i _ => nn' - (intOf i).toNat)
  case atStart => exact ⟨0, Nat.zero_le _, rfl, B3.out, R3.out⟩
  case round =>
    obtain ⟨k, hk, rfl, hB, hR⟩ := hrel
    have BW := Lib.hid hB
    have RW := Lib.hid hR
    clear hB hR
    obtain ⟨⟨b0, b1, b2, b3⟩, d0, d1, d2, d3⟩ := HX.out _ RW.out
    by_cases hlt : k < nn'
    · have hkl : k < c.names.length := by have := HH.out.names.len; simp only at this; omega
      obtain ⟨g1, o1, rfl, c1⟩ := (HH.out.below BW.out).names.reads.sat_ hkl
      obtain ⟨g2, o2, rfl, c2⟩ := (HK.out.below BW.out).names.reads.sat_ hkl
      generalize c.names[k] = x at c1 c2
      have i0 : (0 : Int) ≤ (k : Int) := by omega
      have i1 : (k : Int) < (nn' : Int) := by omega
      clear hkl
      have hS : (fun w' : World => w'.cell? ⟨w.heap.size, 0, none⟩ = some (.slice (some ⟨g1, o1, none⟩) nn' nc) ∧ w'.cell? ⟨w.heap.size + 1, 0, none⟩ = some (.slice (some ⟨g2, o2, none⟩) nn' nc') ∧ w'.cell? ⟨g1, o1 + k, none⟩ = some (.string ⟨x.toArray⟩) ∧ w'.cell? ⟨g2, o2 + k, none⟩ = some (.string ⟨x.toArray⟩)) wr.drew := ⟨b0, d0, c1, c2⟩
      go_wp2
      go_region_held (fun w' : World => w'.cell? ⟨w.heap.size, 0, none⟩ = some (.slice (some ⟨g1, o1, none⟩) nn' nc) ∧ w'.cell? ⟨w.heap.size + 1, 0, none⟩ = some (.slice (some ⟨g2, o2, none⟩) nn' nc') ∧ w'.cell? ⟨g1, o1 + k, none⟩ = some (.string ⟨x.toArray⟩) ∧ w'.cell? ⟨g2, o2 + k, none⟩ = some (.string ⟨x.toArray⟩)) (first | exact hS | assumption) (first | fail)
      all_goals
        go_wp2
        go_roundw
        case rel => exact ⟨k + 1, by omega, by go_num, BW.out.drew, RW.out.drew⟩
        case measure => simp [intOf]; omega
    · obtain rfl : k = nn' := by omega
      obtain ⟨w5, hw5⟩ : ∃ w5 : World, w5 = wr := ⟨_, rfl⟩
      subst hw5
      go_wp2
      go_ret
      exact ⟨rfl, BW.out⟩

end Go.Proofs.YtglkmpglpddfdaaGreatDoor
end

section
namespace Go.Proofs.YtglkmpglpddfdaaGreatDoor
open Go.RowKit
set_option linter.unusedVariables false

theorem cut_wide (l : List UInt8) : ∀ x ∈ cut l, x.2.length ≤ 4 := by
  by_cases h : l = []
  · subst h; rw [cut_nil]; intro x hx; cases hx
  · have hw := decL_width l h
    have ih := cut_wide (l.drop (decL l).2)
    rw [cut_cons h]
    intro x hx
    rcases List.mem_cons.1 hx with rfl | hx
    · simp only [List.length_take]; omega
    · exact ih x hx
termination_by l.length
decreasing_by
  have := decL_width l h
  rw [List.length_drop]
  omega
theorem flat_le {l : List (List UInt8)} {B : Nat} (h : ∀ x ∈ l, x.length ≤ B) : l.flatten.length ≤ l.length * B := by
  induction l with
  | nil => simp
  | cons x l ih =>
    have h1 := h x (by simp)
    have h2 := ih (fun y hy => h y (by simp [hy]))
    simp only [List.flatten_cons, List.length_append, List.length_cons, Nat.add_mul, Nat.one_mul]
    omega
theorem name_short {l : List UInt8} (h : nameB l = true) : l.length ≤ 48 := by
  unfold nameB at h
  simp only [Bool.and_eq_true, decide_eq_true_eq] at h
  have h1 : ((cut l).map (·.2)).flatten.length ≤ ((cut l).map (·.2)).length * 4 := flat_le (fun x hx => by
    obtain ⟨y, hy, rfl⟩ := List.mem_map.1 hx
    exact cut_wide l y hy)
  rw [cut_flat, List.length_map] at h1
  omega
theorem digN_len {n : Nat} (h : n < 10000) : (digN n).length ≤ 4 := by
  by_cases h0 : n = 0
  · subst h0; rw [digN_zero]; simp
  rw [digN_pos (by omega)]
  by_cases h1 : n / 10 = 0
  · rw [h1, digN_zero]; simp
  rw [digN_pos (by omega)]
  by_cases h2 : n / 10 / 10 = 0
  · rw [h2, digN_zero]; simp
  rw [digN_pos (by omega)]
  by_cases h3 : n / 10 / 10 / 10 = 0
  · rw [h3, digN_zero]; simp
  rw [digN_pos (by omega)]
  have h4 : n / 10 / 10 / 10 / 10 = 0 := by omega
  rw [h4, digN_zero]; simp
/-! The lines of a configuration. -/
def nmAt (c : Cf) (i : Nat) : List UInt8 := c.names.getD i []
def labN (c : Cf) (i : Nat) : List UInt8 := [108, 97, 98, 101, 108, 32] ++ nmAt c i ++ [32] ++ digN (c.quotas.getD i 0).toNat ++ [10]
def undN (c : Cf) (a b : Nat) : List UInt8 := [117, 110, 100, 101, 114, 32] ++ nmAt c a ++ [32] ++ nmAt c b ++ [10]
def undO (c : Cf) (a b : Nat) : List UInt8 := if a ≠ b ∧ ubit c.up a b = true then undN c a b else []
def graN (c : Cf) (g : G) : List UInt8 := [103, 114, 97, 110, 116, 32] ++ nmAt c g.a.toNat ++ [32] ++ nmAt c g.f.toNat ++ [32] ++ nmAt c g.t.toNat ++ [10]
def labsN (c : Cf) (k : Nat) : List UInt8 := ((List.range k).map (labN c)).flatten
def undR (c : Cf) (a k : Nat) : List UInt8 := ((List.range k).map (undO c a)).flatten
def undsN (c : Cf) (k : Nat) : List UInt8 := ((List.range k).map fun a => undR c a c.names.length).flatten
def grasN (c : Cf) (k : Nat) : List UInt8 := ((c.grants.take k).map (graN c)).flatten
noncomputable def showN (c : Cf) : List UInt8 := if checkC c = true then labsN c c.names.length ++ undsN c c.names.length ++ grasN c c.grants.length else []
theorem labsN_more (c : Cf) (k : Nat) : labsN c (k + 1) = labsN c k ++ labN c k := by simp [labsN, List.range_succ]
theorem undR_more (c : Cf) (a k : Nat) : undR c a (k + 1) = undR c a k ++ undO c a k := by simp [undR, List.range_succ]
theorem undsN_more (c : Cf) (k : Nat) : undsN c (k + 1) = undsN c k ++ undR c k c.names.length := by simp [undsN, List.range_succ]
theorem grasN_more (c : Cf) (k : Nat) (h : k < c.grants.length) : grasN c (k + 1) = grasN c k ++ graN c c.grants[k] := by
  unfold grasN
  rw [List.take_succ_eq_append_getElem h]
  simp only [List.map_append, List.flatten_append, List.map_cons, List.map_nil, List.flatten_cons, List.flatten_nil, List.append_nil]
structure Okc (c : Cf) : Prop where
  lat : IsLat c.up
  ups : c.names.length = c.up.length
  quo : c.names.length = c.quotas.length
  gra : checkG c.up c.grants = true
  name : ∀ i, i < c.names.length → nameB (nmAt c i) = true
  quota : ∀ i, i < c.names.length → 4 ≤ c.quotas.getD i 0 ∧ c.quotas.getD i 0 ≤ 1000
  once : ∀ i, i < c.names.length → findN (c.names.take i) (nmAt c i) < 0
theorem okc_iff (c : Cf) : checkC c = true ↔ Okc c := by
  unfold checkC okC
  simp only [Bool.and_eq_true, decide_eq_true_eq, List.all_eq_true, List.mem_range, Bool.not_eq_true', decide_eq_false_iff_not]
  constructor
  · rintro ⟨h1, h2, h3, h4, h5⟩
    exact ⟨checkB_iff.1 h3, h1, h2, h4, fun i hi => (h5 i hi).1, fun i hi => by have := (h5 i hi).2; omega, fun i hi => by have := (h5 i hi).2.2.2; unfold nmAt; omega⟩
  · intro h
    refine ⟨h.ups, h.quo, checkB_iff.2 h.lat, h.gra, fun i hi => ⟨h.name i hi, ?_⟩⟩
    have h1 := h.quota i hi
    have h2 := h.once i hi
    unfold nmAt at h2
    omega
theorem Okc.n64 {c : Cf} (h : Okc c) : c.names.length ≤ 64 := by have := h.lat.1.2; have := h.ups; omega
theorem checkG64 {up : List Nat} {l : List G} (h : checkG up l = true) : l.length ≤ 64 := by
  unfold checkG at h
  simp only [Bool.and_eq_true, decide_eq_true_eq] at h
  exact h.1
theorem Okc.fits {c : Cf} (h : Okc c) : ∀ g ∈ c.grants, fitsG c.up g = true := by
  intro g hg
  have h1 := h.gra
  unfold checkG at h1
  simp only [Bool.and_eq_true, decide_eq_true_eq, List.all_eq_true, List.mem_range] at h1
  obtain ⟨i, hi, rfl⟩ := List.getElem_of_mem hg
  have := h1.2 i hi
  unfold okG at this
  rw [getG_at _ _ hi] at this
  simp only [Bool.and_eq_true] at this
  exact this.1
theorem nm_len {c : Cf} (h : Okc c) (i : Nat) : (nmAt c i).length ≤ 48 := by
  by_cases hi : i < c.names.length
  · exact name_short (h.name i hi)
  · unfold nmAt; rw [show c.names.getD i [] = [] by simp [List.getD, List.getElem?_eq_none (Nat.le_of_not_lt hi)]]; simp
theorem lab_len {c : Cf} (h : Okc c) (i : Nat) (hi : i < c.names.length) : (labN c i).length ≤ 60 := by
  have h1 := nm_len h i
  have h2 := digN_len (n := (c.quotas.getD i 0).toNat) (by have := h.quota i hi; omega)
  simp only [labN, List.length_append, List.length_cons, List.length_nil]
  omega
theorem und_len {c : Cf} (h : Okc c) (a b : Nat) : (undN c a b).length ≤ 104 := by
  have h1 := nm_len h a
  have h2 := nm_len h b
  simp only [undN, List.length_append, List.length_cons, List.length_nil]
  omega
theorem undO_len {c : Cf} (h : Okc c) (a b : Nat) : (undO c a b).length ≤ 104 := by
  unfold undO
  split
  · exact und_len h a b
  · simp
theorem gra_len {c : Cf} (h : Okc c) (g : G) : (graN c g).length ≤ 153 := by
  have h1 := nm_len h g.a.toNat
  have h2 := nm_len h g.f.toNat
  have h3 := nm_len h g.t.toNat
  simp only [graN, List.length_append, List.length_cons, List.length_nil]
  omega
theorem labs_len {c : Cf} (h : Okc c) (k : Nat) (hk : k ≤ c.names.length) : (labsN c k).length ≤ k * 60 := by
  induction k with
  | zero => simp [labsN]
  | succ k ih =>
    have := ih (by omega)
    have := lab_len h k (by omega)
    rw [labsN_more, List.length_append]
    omega
theorem undR_len {c : Cf} (h : Okc c) (a k : Nat) : (undR c a k).length ≤ k * 104 := by
  induction k with
  | zero => simp [undR]
  | succ k ih =>
    have := undO_len h a k
    rw [undR_more, List.length_append]
    omega
theorem unds_len {c : Cf} (h : Okc c) (k : Nat) : (undsN c k).length ≤ k * 6656 := by
  induction k with
  | zero => simp [undsN]
  | succ k ih =>
    have := undR_len h k c.names.length
    have := h.n64
    rw [undsN_more, List.length_append]
    omega
theorem gras_len {c : Cf} (h : Okc c) (k : Nat) (hk : k ≤ c.grants.length) : (grasN c k).length ≤ k * 153 := by
  induction k with
  | zero => simp [grasN]
  | succ k ih =>
    have := ih (by omega)
    have := gra_len h c.grants[k]
    rw [grasN_more c k (by omega), List.length_append]
    omega

end Go.Proofs.YtglkmpglpddfdaaGreatDoor
end
