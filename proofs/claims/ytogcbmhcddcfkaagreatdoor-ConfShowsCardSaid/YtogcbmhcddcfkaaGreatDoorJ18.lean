import Derived.Test.YtogcbmhcddcfkaaGreatDoorJCof
import Derived.Test.YtogcbmhcddcfkaaGreatDoorJ13
/- Of a claim's texts, joined: Sam Shom. No statement but in the last. -/
section
namespace Go.Proofs.YtogcbmhcddcfkaaGreatDoor
open Go.RowKit
set_option linter.unusedVariables false

end Go.Proofs.YtogcbmhcddcfkaaGreatDoor
end

section
namespace Go.Proofs.YtogcbmhcddcfkaaGreatDoor
open Go.RowKit
set_option linter.unusedVariables false

theorem cut_wide (l : List UInt8) : ∀ x ∈ cut l, x.2.length ≤ 4 := by
  by_cases h : l = []
  · subst h; rw [cut_nil]; intro x hx; cases hx
  · have hw := decL_width l h
    have ih := cut_wide (l.drop (decL l).2)
    rw [cut_cons h]
    intro x hx
    rcases List.mem_cons.1 hx with rfl | hx
    · simp only [List.length_take]; omega
    · exact ih x hx
termination_by l.length
decreasing_by
  have := decL_width l h
  rw [List.length_drop]
  omega
theorem flat_le {l : List (List UInt8)} {B : Nat} (h : ∀ x ∈ l, x.length ≤ B) : l.flatten.length ≤ l.length * B := by
  induction l with
  | nil => simp
  | cons x l ih =>
    have h1 := h x (by simp)
    have h2 := ih (fun y hy => h y (by simp [hy]))
    simp only [List.flatten_cons, List.length_append, List.length_cons, Nat.add_mul, Nat.one_mul]
    omega
theorem name_short {l : List UInt8} (h : nameB l = true) : l.length ≤ 48 := by
  unfold nameB at h
  simp only [Bool.and_eq_true, decide_eq_true_eq] at h
  have h1 : ((cut l).map (·.2)).flatten.length ≤ ((cut l).map (·.2)).length * 4 := flat_le (fun x hx => by
    obtain ⟨y, hy, rfl⟩ := List.mem_map.1 hx
    exact cut_wide l y hy)
  rw [cut_flat, List.length_map] at h1
  omega
theorem digN_len {n : Nat} (h : n < 10000) : (digN n).length ≤ 4 := by
  by_cases h0 : n = 0
  · subst h0; rw [digN_zero]; simp
  rw [digN_pos (by omega)]
  by_cases h1 : n / 10 = 0
  · rw [h1, digN_zero]; simp
  rw [digN_pos (by omega)]
  by_cases h2 : n / 10 / 10 = 0
  · rw [h2, digN_zero]; simp
  rw [digN_pos (by omega)]
  by_cases h3 : n / 10 / 10 / 10 = 0
  · rw [h3, digN_zero]; simp
  rw [digN_pos (by omega)]
  have h4 : n / 10 / 10 / 10 / 10 = 0 := by omega
  rw [h4, digN_zero]; simp
/-! The lines of a configuration. -/
def nmAt (c : Cf) (i : Nat) : List UInt8 := c.names.getD i []
def labN (c : Cf) (i : Nat) : List UInt8 := [108, 97, 98, 101, 108, 32] ++ nmAt c i ++ [32] ++ digN (c.quotas.getD i 0).toNat ++ [10]
def undN (c : Cf) (a b : Nat) : List UInt8 := [117, 110, 100, 101, 114, 32] ++ nmAt c a ++ [32] ++ nmAt c b ++ [10]
def undO (c : Cf) (a b : Nat) : List UInt8 := if a ≠ b ∧ ubit c.up a b = true then undN c a b else []
def graN (c : Cf) (g : G) : List UInt8 := [103, 114, 97, 110, 116, 32] ++ nmAt c g.a.toNat ++ [32] ++ nmAt c g.f.toNat ++ [32] ++ nmAt c g.t.toNat ++ [10]
def labsN (c : Cf) (k : Nat) : List UInt8 := ((List.range k).map (labN c)).flatten
def undR (c : Cf) (a k : Nat) : List UInt8 := ((List.range k).map (undO c a)).flatten
def undsN (c : Cf) (k : Nat) : List UInt8 := ((List.range k).map fun a => undR c a c.names.length).flatten
def grasN (c : Cf) (k : Nat) : List UInt8 := ((c.grants.take k).map (graN c)).flatten
noncomputable def showN (c : Cf) : List UInt8 := if checkC c = true then labsN c c.names.length ++ undsN c c.names.length ++ grasN c c.grants.length else []
theorem labsN_more (c : Cf) (k : Nat) : labsN c (k + 1) = labsN c k ++ labN c k := by simp [labsN, List.range_succ]
theorem undR_more (c : Cf) (a k : Nat) : undR c a (k + 1) = undR c a k ++ undO c a k := by simp [undR, List.range_succ]
theorem undsN_more (c : Cf) (k : Nat) : undsN c (k + 1) = undsN c k ++ undR c k c.names.length := by simp [undsN, List.range_succ]
theorem grasN_more (c : Cf) (k : Nat) (h : k < c.grants.length) : grasN c (k + 1) = grasN c k ++ graN c c.grants[k] := by
  unfold grasN
  rw [List.take_succ_eq_append_getElem h]
  simp only [List.map_append, List.flatten_append, List.map_cons, List.map_nil, List.flatten_cons, List.flatten_nil, List.append_nil]
structure Okc (c : Cf) : Prop where
  lat : IsLat c.up
  ups : c.names.length = c.up.length
  quo : c.names.length = c.quotas.length
  gra : checkG c.up c.grants = true
  name : ∀ i, i < c.names.length → nameB (nmAt c i) = true
  quota : ∀ i, i < c.names.length → 4 ≤ c.quotas.getD i 0 ∧ c.quotas.getD i 0 ≤ 1000
  once : ∀ i, i < c.names.length → findN (c.names.take i) (nmAt c i) < 0
theorem okc_iff (c : Cf) : checkC c = true ↔ Okc c := by
  unfold checkC okC
  simp only [Bool.and_eq_true, decide_eq_true_eq, List.all_eq_true, List.mem_range, Bool.not_eq_true', decide_eq_false_iff_not]
  constructor
  · rintro ⟨h1, h2, h3, h4, h5⟩
    exact ⟨checkB_iff.1 h3, h1, h2, h4, fun i hi => (h5 i hi).1, fun i hi => by have := (h5 i hi).2; omega, fun i hi => by have := (h5 i hi).2.2.2; unfold nmAt; omega⟩
  · intro h
    refine ⟨h.ups, h.quo, checkB_iff.2 h.lat, h.gra, fun i hi => ⟨h.name i hi, ?_⟩⟩
    have h1 := h.quota i hi
    have h2 := h.once i hi
    unfold nmAt at h2
    omega
theorem Okc.n64 {c : Cf} (h : Okc c) : c.names.length ≤ 64 := by have := h.lat.1.2; have := h.ups; omega
theorem checkG64 {up : List Nat} {l : List G} (h : checkG up l = true) : l.length ≤ 64 := by
  unfold checkG at h
  simp only [Bool.and_eq_true, decide_eq_true_eq] at h
  exact h.1
theorem Okc.fits {c : Cf} (h : Okc c) : ∀ g ∈ c.grants, fitsG c.up g = true := by
  intro g hg
  have h1 := h.gra
  unfold checkG at h1
  simp only [Bool.and_eq_true, decide_eq_true_eq, List.all_eq_true, List.mem_range] at h1
  obtain ⟨i, hi, rfl⟩ := List.getElem_of_mem hg
  have := h1.2 i hi
  unfold okG at this
  rw [getG_at _ _ hi] at this
  simp only [Bool.and_eq_true] at this
  exact this.1
theorem nm_len {c : Cf} (h : Okc c) (i : Nat) : (nmAt c i).length ≤ 48 := by
  by_cases hi : i < c.names.length
  · exact name_short (h.name i hi)
  · unfold nmAt; rw [show c.names.getD i [] = [] by simp [List.getD, List.getElem?_eq_none (Nat.le_of_not_lt hi)]]; simp
theorem lab_len {c : Cf} (h : Okc c) (i : Nat) (hi : i < c.names.length) : (labN c i).length ≤ 60 := by
  have h1 := nm_len h i
  have h2 := digN_len (n := (c.quotas.getD i 0).toNat) (by have := h.quota i hi; omega)
  simp only [labN, List.length_append, List.length_cons, List.length_nil]
  omega
theorem und_len {c : Cf} (h : Okc c) (a b : Nat) : (undN c a b).length ≤ 104 := by
  have h1 := nm_len h a
  have h2 := nm_len h b
  simp only [undN, List.length_append, List.length_cons, List.length_nil]
  omega
theorem undO_len {c : Cf} (h : Okc c) (a b : Nat) : (undO c a b).length ≤ 104 := by
  unfold undO
  split
  · exact und_len h a b
  · simp
theorem gra_len {c : Cf} (h : Okc c) (g : G) : (graN c g).length ≤ 153 := by
  have h1 := nm_len h g.a.toNat
  have h2 := nm_len h g.f.toNat
  have h3 := nm_len h g.t.toNat
  simp only [graN, List.length_append, List.length_cons, List.length_nil]
  omega
theorem labs_len {c : Cf} (h : Okc c) (k : Nat) (hk : k ≤ c.names.length) : (labsN c k).length ≤ k * 60 := by
  induction k with
  | zero => simp [labsN]
  | succ k ih =>
    have := ih (by omega)
    have := lab_len h k (by omega)
    rw [labsN_more, List.length_append]
    omega
theorem undR_len {c : Cf} (h : Okc c) (a k : Nat) : (undR c a k).length ≤ k * 104 := by
  induction k with
  | zero => simp [undR]
  | succ k ih =>
    have := undO_len h a k
    rw [undR_more, List.length_append]
    omega
theorem unds_len {c : Cf} (h : Okc c) (k : Nat) : (undsN c k).length ≤ k * 6656 := by
  induction k with
  | zero => simp [undsN]
  | succ k ih =>
    have := undR_len h k c.names.length
    have := h.n64
    rw [undsN_more, List.length_append]
    omega
theorem gras_len {c : Cf} (h : Okc c) (k : Nat) (hk : k ≤ c.grants.length) : (grasN c k).length ≤ k * 153 := by
  induction k with
  | zero => simp [grasN]
  | succ k ih =>
    have := ih (by omega)
    have := gra_len h c.grants[k]
    rw [grasN_more c k (by omega), List.length_append]
    omega

end Go.Proofs.YtogcbmhcddcfkaaGreatDoor
end
