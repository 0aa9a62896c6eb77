/- The mathematics of the law DiskStays: no statement. -/
import Derived.Test.YthbchloghbfnmaaDss
import Derived.Test.YthbchloghbfnmaaDtw
namespace Go.Proofs.Ythbchloghbfnmaa
open Go.RowKit
set_option linter.unusedVariables false

def pgs (b : UInt8) : List UInt8 := List.replicate 128 b
/-- Writes of pages on end. -/
def wsF : Nat → List UInt8 → List Wr
  | _, [] => []
  | o, b :: l => ((o : Int), pgs b) :: wsF (o + 1) l
theorem wsF_snoc (b : UInt8) : ∀ (l : List UInt8) (o : Nat), wsF o (l ++ [b]) = wsF o l ++ [(((o + l.length : Nat) : Int), pgs b)]
  | [], o => by simp [wsF]
  | c :: l, o => by
    simp only [List.cons_append, wsF, wsF_snoc b l (o + 1), List.length_cons]
    rw [show o + 1 + l.length = o + (l.length + 1) by omega]
theorem wsF_len : ∀ (l : List UInt8) (o : Nat), (wsF o l).length = l.length
  | [], _ => rfl
  | c :: l, o => by simp [wsF, wsF_len l (o + 1)]
theorem setK_ws (K : Nat → Bool) (p : Nat) : ∀ (l : List UInt8) (o : Nat) (f : Int → Option (List UInt8)),
    setK K o (wsF o l) f (p : Int) = if o ≤ p ∧ p < o + l.length ∧ K p = true then some (pgs (l.getD (p - o) 0)) else f (p : Int)
  | [], o, f => by
    rw [if_neg (fun q => by have := q.2.1; simp at this; omega)]
    rfl
  | b :: l, o, f => by
    simp only [wsF, setK, List.length_cons]
    rw [setK_ws K p l (o + 1)]
    by_cases h : p = o
    · subst h
      rw [if_neg (by omega)]
      by_cases hk : K p = true
      · rw [if_pos hk, if_pos ⟨Nat.le_refl _, by omega, hk⟩]
        simp [putS]
      · rw [if_neg hk, if_neg (fun q => hk q.2.2)]
    · have hf : (if K o = true then putS f ((o : Int), pgs b) else f) (p : Int) = f (p : Int) := by
        split
        · simp only [putS]
          rw [if_neg (by omega)]
        · rfl
      rw [hf]
      by_cases hc : o + 1 ≤ p ∧ p < o + 1 + l.length ∧ K p = true
      · rw [if_pos hc, if_pos ⟨by omega, by omega, hc.2.2⟩, show p - o = (p - (o + 1)) + 1 by omega]
        simp
      · rw [if_neg hc, if_neg (fun q => hc ⟨by omega, by omega, q.2.2⟩)]
/-- A region of 30 pages that never stops. -/
def R30 (f : Int → Option (List UInt8)) (lo : List Wr) : Rg := ⟨30, f, lo, -1, false⟩
theorem wr_R30 (f : Int → Option (List UInt8)) (lo : List Wr) {k : Nat} (hk : k < 30) (b : UInt8) : wrA [R30 f lo] 0 (k : Int) (pgs b) = ([R30 f (lo ++ [((k : Int), pgs b)])], 0) := by
  have h1 : cntR (R30 f lo) = R30 f lo := cntR_never rfl
  have h2 : hasB (R30 f lo) k = true := by
    unfold hasB
    rw [decide_eq_true (by omega : (0 : Int) ≤ k)]
    exact decide_eq_true (show (k : Int) < ((30 : Nat) : Int) by omega)
  have h3 : (pgs b).length = 128 := by simp [pgs]
  unfold wrA
  rw [show regN [R30 f lo] 0 = some (R30 f lo) from rfl]
  simp only [h1, h2, h3]
  rfl
theorem sy_R30 (f : Int → Option (List UInt8)) (lo : List Wr) : syA [R30 f lo] 0 = ([R30 (setK allK 0 lo f) []], 0) := by
  have h1 : cntR (R30 f lo) = R30 f lo := cntR_never rfl
  unfold syA
  rw [show regN [R30 f lo] 0 = some (R30 f lo) from rfl]
  simp only [h1]
  rfl
theorem cr_R30 (s : List UInt8) (f : Int → Option (List UInt8)) (lo : List Wr) : crA [s] [R30 f lo] = [R30 (setK (bitS s) 0 lo f) []] := rfl
theorem rd_R30 (f : Int → Option (List UInt8)) {k : Nat} (hk : k < 30) : rdE [R30 f []] 0 (k : Int) = 0 ∧ rdL [R30 f []] 0 (k : Int) = (f k).getD zeros := by
  have h2 : hasB (R30 f []) k = true := by
    unfold hasB
    rw [decide_eq_true (by omega : (0 : Int) ≤ k)]
    exact decide_eq_true (show (k : Int) < ((30 : Nat) : Int) by omega)
  refine ⟨?_, ?_⟩
  · unfold rdE
    rw [show regN [R30 f []] 0 = some (R30 f []) from rfl]
    simp only [h2]
    rfl
  · unfold rdL
    rw [show regN [R30 f []] 0 = some (R30 f []) from rfl]
    simp only [h2]
    rfl
/-- What was synced, and what lies over it. -/
def wasB (fl : List UInt8) (k : Nat) : UInt8 := fl.getD k 0
def nowB (fl mo : List UInt8) (k : Nat) : UInt8 := if k < mo.length then mo.getD k 0 else wasB fl k
def gotB (fl mo ks : List UInt8) (k : Nat) : UInt8 := if bitS ks k then nowB fl mo k else wasB fl k
theorem was_R30 (fl : List UInt8) (k : Nat) : (setK allK 0 (wsF 0 fl) (fun _ => none) (k : Int)).getD zeros = pgs (wasB fl k) := by
  rw [setK_ws]
  split
  · rfl
  · rename_i h
    have : fl.length ≤ k := by
      rcases Nat.lt_or_ge k fl.length with hk | hk
      · exact absurd ⟨Nat.zero_le _, by omega, rfl⟩ h
      · exact hk
    simp [wasB, List.getD, List.getElem?_eq_none this, zeros, pgs]
theorem got_R30 (fl mo ks : List UInt8) (k : Nat) : (setK (bitS ks) 0 (wsF 0 mo) (setK allK 0 (wsF 0 fl) (fun _ => none)) (k : Int)).getD zeros = pgs (gotB fl mo ks k) := by
  rw [setK_ws]
  unfold gotB nowB
  split
  · rename_i h
    rw [if_pos h.2.2, if_pos (by omega)]
    simp
  · rename_i h
    rw [was_R30]
    split
    · rename_i hb
      rw [if_neg (fun hk => h ⟨Nat.zero_le _, by omega, hb⟩)]
    · rfl
def ff4 : List UInt8 := [255, 255, 255, 255]
theorem ff4_bit : ∀ i, i < 32 → bitS ff4 i = true := by decide +kernel
theorem got_ff (fl mo : List UInt8) {k : Nat} (hk : k < 30) : gotB fl mo ff4 k = nowB fl mo k := by
  unfold gotB
  rw [if_pos (ff4_bit k (by omega))]
theorem keep_bit (ks : List UInt8) {k : Nat} (h : k / 8 < ks.length) : (ks[k / 8].toNat).testBit (k % 8) = bitS ks k := by
  unfold bitS
  rw [show ks.getD (k / 8) 0 = ks[k / 8] by simp [List.getD, h], half_bit]
theorem txts_one (w : World) (s : List UInt8) (hs : s.length ≤ 9223372036854775807) (o : Obj) (ho : o = .cells #[.string ⟨s.toArray⟩] 9) : Txts (w.alloc o) (some ⟨w.heap.size, 0, none⟩) 1 [s] := by
  subst ho
  refine ⟨rfl, fun hx => ⟨w.heap.size, 0, rfl, fun j u hj => ?_⟩, by omega, fun q hq => by simp at hq; subst hq; exact hs⟩
  have := (Has.made w 9 #[.string ⟨s.toArray⟩]).cell (0 + j)
  exact this.trans (by rw [Nat.zero_add, ← hj]; simp [txtV])

theorem Bk.five {w : World} {T : Tg} {g : Nat} {t : TypeId} {b : UInt8} (h : Bk w T g t ((pgs b).map byteV).toArray) : w.cell? ⟨g, 5, none⟩ = some (.int .u8 (b.toNat : Int)) := by
  rw [h.has.cell]
  simp [pgs, byteV]

end Go.Proofs.Ythbchloghbfnmaa
