/- The walk of the law ConfWhere. -/
import Derived.Test.YtogcbmhcddcfkaaGreatDoorJCoParses
import Derived.Test.YtogcbmhcddcfkaaGreatDoorJWhn
import Derived.Deep.Cut
namespace Go.Proofs.YtogcbmhcddcfkaaGreatDoor
open Go.RowKit
set_option linter.unusedVariables false

/-- What Parse may answer. -/
theorem parse_three (L : List UInt8) : (∃ c, parseN L = (c, 0, 0, 0) ∧ checkC c = true) ∨ ∃ a k, parseN L = (cf0, 13, a, k) ∧ ((a = 0 ∧ k = 0) ∨ ∃ c, parseL (linesN L) 1 cf0 = (c, some (a, k))) := by
  obtain ⟨⟨c, o⟩, hp⟩ : ∃ r, parseL (linesN L) 1 cf0 = r := ⟨_, rfl⟩
  cases o with
  | none =>
    rw [parseN_end hp]
    by_cases h : checkC { c with up := closeN c.up } = true
    · rw [if_pos h]
      exact .inl ⟨_, rfl, h⟩
    · rw [if_neg h]
      exact .inr ⟨0, 0, rfl, .inl ⟨rfl, rfl⟩⟩
  | some ak =>
    obtain ⟨a, k⟩ := ak
    exact .inr ⟨a, k, parseN_bad hp, .inr ⟨c, hp⟩⟩
theorem cntW_grow (line : Nat) (l : List (Nat × List UInt8)) : ∀ now k, (cntW line l now k).1 ≤ now + l.length ∧ (cntW line l now k).2 ≤ k + l.length := by
  induction l with
  | nil => intro now k; exact ⟨Nat.le_refl _, Nat.le_refl _⟩
  | cons x l ih =>
    intro now k
    rw [cntW]
    have h := ih (if x.1 = 10 then now + 1 else now) (if now = line ∧ x.1 ≠ 10 then k + 1 else k)
    rw [List.length_cons]
    refine ⟨Nat.le_trans h.1 ?_, Nat.le_trans h.2 ?_⟩ <;> split <;> omega
theorem cntW_ge (line : Nat) (l : List (Nat × List UInt8)) : ∀ now k, now ≤ (cntW line l now k).1 ∧ k ≤ (cntW line l now k).2 := by
  induction l with
  | nil => intro now k; exact ⟨Nat.le_refl _, Nat.le_refl _⟩
  | cons x l ih =>
    intro now k
    rw [cntW]
    have h := ih (if x.1 = 10 then now + 1 else now) (if now = line ∧ x.1 ≠ 10 then k + 1 else k)
    refine ⟨Nat.le_trans ?_ h.1, Nat.le_trans ?_ h.2⟩ <;> split <;> omega
theorem cut_le (l : List UInt8) : (cut l).length ≤ l.length := by
  by_cases h : l = []
  · subst h; rw [cut_nil]; exact Nat.le_refl _
  · have hw := decL_width l h
    rw [cut_cons h, List.length_cons]
    have := cut_le (l.drop (decL l).2)
    rw [List.length_drop] at this
    omega
termination_by l.length
decreasing_by
  have := decL_width l h
  rw [List.length_drop]
  omega
theorem walkCoWhere_long (L M : List UInt8) (w : World) (ht : Base5 w) (h : ¬ (L.length ≤ 1000 ∧ M.length ≤ 1000)) (hL : L.length ≤ maxLen) (hM : M.length ≤ maxLen) :
    Calls Tryz.prog 6 #[.string ⟨L.toArray⟩, .string ⟨M.toArray⟩] w fun e w' => e = .returned (.bool true) ∧ Below w.heap.size w w' := by
  have HT := Lib.hid ht
  have h1 : (⟨L.toArray⟩ : ByteArray).size = L.length := size_list L
  have h2 : (⟨M.toArray⟩ : ByteArray).size = M.length := size_list M
  unfold maxLen at hL hM
  generalize (⟨L.toArray⟩ : ByteArray) = sL at *
  generalize (⟨M.toArray⟩ : ByteArray) = sM at *
  rw [← h1, ← h2] at h
  rw [← h1] at hL
  rw [← h2] at hM
  clear ht h1 h2
  by_cases hl : sL.size ≤ 1000
  · have e1 : ¬ (1000 : Int) < (sL.size : Int) := by omega
    have e2 : (1000 : Int) < (sM.size : Int) := by omega
    clear h
    go_enter Tryz.func6, Tryz.ntmps6
    go_wp2_with (go_at_call 9; refine (awake05_any _ HT.out).mono ?_; rintro e w0 ⟨rfl, h0⟩; have B0 := Lib.hid h0; clear h0)
    go_ret
    exact ⟨rfl, B0.out⟩
  · have e1 : (1000 : Int) < (sL.size : Int) := by omega
    clear h
    go_enter Tryz.func6, Tryz.ntmps6
    go_wp2_with (go_at_call 9; refine (awake05_any _ HT.out).mono ?_; rintro e w0 ⟨rfl, h0⟩; have B0 := Lib.hid h0; clear h0)
    go_ret
    exact ⟨rfl, B0.out⟩
set_option maxRecDepth 100000 in
set_option maxHeartbeats 4000000 in
theorem walkCoWhere_ok (L M : List UInt8) (w : World) (ht : Base5 w) (hL : L.length ≤ 1000) (hM : M.length ≤ 1000) (c : Cf) (hr : parseN L = (c, 0, 0, 0)) (hck : checkC c = true) :
    Calls Tryz.prog 6 #[.string ⟨L.toArray⟩, .string ⟨M.toArray⟩] w fun e w' => e = .returned (.bool true) ∧ Below w.heap.size w w' := by
  have HT := Lib.hid ht
  have h1 : (⟨L.toArray⟩ : ByteArray).size = L.length := size_list L
  have h2 : (⟨M.toArray⟩ : ByteArray).size = M.length := size_list M
  have HP1 := Lib.hid (fun w1 (hb : Below w.heap.size w w1) => coParse_any L w1 (HT.out.below hb) (by omega))
  rw [hr] at HP1
  have hk := (okc_iff c).1 hck
  have hn64 := hk.n64
  have hup := hk.ups
  have HCk := Lib.hid (fun (nA : Option Addr) (nn nc : Nat) (uA : Option Addr) (un uc : Nat) (qA : Option Addr) (qn qc : Nat) (gA : Option Addr) (gn gc : Nat) w1 (hb : Below w.heap.size w w1) (h : ArgC w1 ⟨nA, nn, nc, uA, un, uc, qA, qn, qc, gA, gn, gc⟩ c) => show Calls Tryz.prog 15 #[.agg #[.slice nA nn nc, .slice uA un uc, .slice qA qn qc, .slice gA gn gc]] w1 (BoolEnd true w1) by
    have := coCheck_any c ⟨nA, nn, nc, uA, un, uc, qA, qn, qc, gA, gn, gc⟩ w1 (HT.out.below hb) h (by have := h.names.len; omega) (by have := h.up.len; omega)
    rwa [hck] at this)
  have e1 : ¬ (1000 : Int) < (L.length : Int) := by omega
  have e2 : ¬ (1000 : Int) < (M.length : Int) := by omega
  clear ht hr hk hup hck hn64
  go_enter Tryz.func6, Tryz.ntmps6
  go_wp2_with (first
    | (go_at_call 9; refine (awake05_any _ HT.out).mono ?_; rintro e w0 ⟨rfl, h0⟩; have B0 := Lib.hid h0; clear h0)
    | (go_at_call 10; (with_reducible refine (HP1.out _ B0.out).mono ?_); rintro e w1 ⟨s, rfl, h1, h2⟩; have B1 := Lib.hid (below_step B0.out h2); have A1 := Lib.hid h1; clear h1 h2; obtain ⟨nA, nn, nc, uA, un, uc, qA, qn, qc, gA, gn, gc⟩ := s; unfold Cs.v
       have BA1 := Lib.hid (below_alloc' B1.out (.cells #[.slice nA nn nc, .slice uA un uc, .slice qA qn qc, .slice gA gn gc] 28))
       have A1a := Lib.hid (A1.out.below ((Below.refl _ w1).alloc (Nat.le_refl _) (.cells #[.slice nA nn nc, .slice uA un uc, .slice qA qn qc, .slice gA gn gc] 28))))
    | (go_at_call 15; (with_reducible refine (HCk.out _ _ _ _ _ _ _ _ _ _ _ _ _ BA1.out A1a.out).mono ?_); rintro e w4 ⟨rfl, h4⟩; have B4 := Lib.hid (below_step BA1.out h4); clear h4))
  go_ret
  exact ⟨rfl, B4.out⟩
set_option maxRecDepth 100000 in
set_option maxHeartbeats 4000000 in
theorem walkCoWhere_zero (L M : List UInt8) (w : World) (ht : Base5 w) (hL : L.length ≤ 1000) (hM : M.length ≤ 1000) (hr : parseN L = (cf0, 13, 0, 0)) :
    Calls Tryz.prog 6 #[.string ⟨L.toArray⟩, .string ⟨M.toArray⟩] w fun e w' => e = .returned (.bool true) ∧ Below w.heap.size w w' := by
  have HT := Lib.hid ht
  have h1 : (⟨L.toArray⟩ : ByteArray).size = L.length := size_list L
  have h2 : (⟨M.toArray⟩ : ByteArray).size = M.length := size_list M
  have HP1 := Lib.hid (fun w1 (hb : Below w.heap.size w w1) => coParse_any L w1 (HT.out.below hb) (by omega))
  rw [hr] at HP1
  have e1 : ¬ (1000 : Int) < (L.length : Int) := by omega
  have e2 : ¬ (1000 : Int) < (M.length : Int) := by omega
  clear ht hr
  go_enter Tryz.func6, Tryz.ntmps6
  go_wp2_with (first
    | (go_at_call 9; refine (awake05_any _ HT.out).mono ?_; rintro e w0 ⟨rfl, h0⟩; have B0 := Lib.hid h0; clear h0)
    | (go_at_call 10; (with_reducible refine (HP1.out _ B0.out).mono ?_); rintro e w1 ⟨s, rfl, h1, h2⟩; have B1 := Lib.hid (below_step B0.out h2); obtain ⟨nA, nn, nc, uA, un, uc, qA, qn, qc, gA, gn, gc⟩ := s; have hnn : nn = 0 := h1.names.len; subst hnn; clear h1 h2; unfold Cs.v
       have BA1 := Lib.hid (below_alloc' B1.out (.cells #[.slice nA 0 nc, .slice uA un uc, .slice qA qn qc, .slice gA gn gc] 28))))
  go_ret
  exact ⟨rfl, BA1.out⟩
set_option maxRecDepth 100000 in
set_option maxHeartbeats 8000000 in
theorem walkCoWhere_bad (L M : List UInt8) (w : World) (ht : Base5 w) (hL : L.length ≤ 1000) (hM : M.length ≤ 1000) (a k : Nat) (hr : parseN L = (cf0, 13, a, k)) (c : Cf) (hp : parseL (linesN L) 1 cf0 = (c, some (a, k))) :
    Calls Tryz.prog 6 #[.string ⟨L.toArray⟩, .string ⟨M.toArray⟩] w fun e w' => e = .returned (.bool true) ∧ Below w.heap.size w w' := by
  have HT := Lib.hid ht
  obtain ⟨w1, w2, w3, w4⟩ := where_at hp
  have hg := cntW_grow a (cut L) 1 0
  have hcl := cut_le L
  have HP1 := Lib.hid (fun w1 (hb : Below w.heap.size w w1) => coParse_any L w1 (HT.out.below hb) (by omega))
  rw [hr] at HP1
  have HP2 := Lib.hid (fun w1 (hb : Below w.heap.size w w1) => coParse_any (L ++ 10 :: M) w1 (HT.out.below hb) (by rw [List.length_append, List.length_cons]; omega))
  rw [parseN_stays hp, hr] at HP2
  have hJ : ((⟨L.toArray⟩ : ByteArray) ++ ⟨#[10]⟩) ++ ⟨M.toArray⟩ = ⟨(L ++ 10 :: M).toArray⟩ := by
    apply ByteArray.ext
    simp
  have h1 : (⟨L.toArray⟩ : ByteArray).size = L.length := size_list L
  have h2 : (⟨M.toArray⟩ : ByteArray).size = M.length := size_list M
  have h3 : ((⟨L.toArray⟩ : ByteArray) ++ ⟨#[10]⟩).size = L.length + 1 := by rw [ByteArray.size_append, h1]; rfl
  have e1 : ¬ (1000 : Int) < (L.length : Int) := by omega
  have e2 : ¬ (1000 : Int) < (M.length : Int) := by omega
  have ha0 : ((a : Int) == 0) = false := beq_false_of_ne (by omega)
  have hk1 : ¬ (k : Int) < 1 := by omega
  obtain ⟨R, hR⟩ : ∃ R, cntW a (cut L) 1 0 = R := ⟨_, rfl⟩
  rw [hR] at w3 w4 hg
  have HR := Lib.hid hR
  have HW3 := Lib.hid w3
  have HW4 := Lib.hid w4
  have hR1 : R.1 ≤ 1001 ∧ R.2 ≤ 1000 := by omega
  have HR1 := Lib.hid hR1
  generalize (L ++ 10 :: M) = J at *
  clear ht hr hp hR w3 w4 hg hcl hR1
  go_enter Tryz.func6, Tryz.ntmps6
  go_upto_region 18 with (first
    | (go_at_call 9; refine (awake05_any _ HT.out).mono ?_; rintro e w0 ⟨rfl, h0⟩; have B0 := Lib.hid h0; clear h0)
    | (go_at_call 10; (with_reducible refine (HP1.out _ B0.out).mono ?_); rintro e w1 ⟨s, rfl, h1, h2⟩; have B1 := Lib.hid (below_step B0.out h2); obtain ⟨nA, nn, nc, uA, un, uc, qA, qn, qc, gA, gn, gc⟩ := s; have hnn : nn = 0 := h1.names.len; subst hnn; clear h1 h2; unfold Cs.v
       have BA1 := Lib.hid (below_alloc' B1.out (.cells #[.slice nA 0 nc, .slice uA un uc, .slice qA qn qc, .slice gA gn gc] 28)))
    | (go_at_call 10; (with_reducible refine (HP2.out _ BA1.out).mono ?_); rintro e w2 ⟨s, rfl, h1, h2⟩; have B2 := Lib.hid (below_step BA1.out h2); obtain ⟨nA', nn', nc', uA', un', uc', qA', qn', qc', gA', gn', gc'⟩ := s; clear h1 h2; unfold Cs.v
       have BA2 := Lib.hid (below_alloc' B2.out (.cells #[.slice nA' nn' nc', .slice uA' un' uc', .slice qA' qn' qc', .slice gA' gn' gc'] 28))))
  generalize w2.alloc (.cells #[.slice nA' nn' nc', .slice uA' un' uc', .slice qA' qn' qc', .slice gA' gn' gc'] 28) = wl at *
  go_wp2
  go_loopw [14, 15] (fun v u wr => ∃ pos n m : Nat, pos ≤ L.length ∧ wr.heap[wl.heap.size]? = some (.stringIter ⟨L.toArray⟩ pos) ∧ Below wl.heap.size wl wr ∧ v = .int .i64 n ∧ u = .int .i64 m ∧ cntW a (cut (L.drop pos)) m n = R) (fun _ _ wr => L.length - wr.iterPos wl.heap.size)
  case atStart =>
    refine ⟨0, 0, 1, Nat.zero_le _, ?_, (Below.refl _ wl).alloc (Nat.le_refl _) _, rfl, rfl, by rw [List.drop_zero]; exact HR.out⟩
    have := World.iter_heap wl ⟨L.toArray⟩ 0
    simpa using this
  case round =>
    obtain ⟨pos, n, m, hp, hit, hB, rfl, rfl, hs⟩ := hrel
    have HB := Lib.hid hB
    have HS := Lib.hid hs
    clear hB hs
    by_cases hlt : pos < L.length
    · obtain ⟨hc, hw1, hw2, hr⟩ := drop_sign hlt
      have hnx := fun ty => next_sign (P := Tryz.prog) hit hlt ty
      have HI := Lib.hid (fun p => Lib.iterAt_heap wr wl.heap.size ⟨L.toArray⟩ pos p hit)
      have HBi := Lib.hid (fun p => Lib.below_iterAt HB.out (k := wl.heap.size) (Nat.le_refl _) ⟨L.toArray⟩ p)
      have HM := Lib.hid (iter_pos hit)
      have hgr := HS.out
      rw [hc, cntW] at hgr
      have hge : m ≤ 1001 ∧ n ≤ 1000 := by
        have h := cntW_ge a (cut (L.drop pos)) m n
        rw [HS.out] at h
        have := HR1.out
        omega
      obtain ⟨hm1, hn1⟩ := hge
      generalize (L.drop pos).take (decL (L.drop pos)).2 = tk at *
      clear hc
      generalize (decL (L.drop pos)).1 = r at hnx hgr hr
      generalize (decL (L.drop pos)).2 = q at hnx hgr hw1 hw2
      by_cases hr10 : r = 10
      · subst hr10
        have HX : Hid (cntW a (cut (L.drop (pos + q))) (m + 1) n = R) := Lib.hid (by simpa using hgr)
        clear hgr
        by_cases hma : m = a
        · have hmb : ((m : Int) == (a : Int)) = true := by simp [hma]
          have HMA := Lib.hid hma
          clear hma
          go_wp2
          go_roundw
          case rel => exact ⟨pos + q, n, m + 1, hw2, HI.out _, HBi.out _, rfl, by go_num, HX.out⟩
          case measure =>
            rw [iter_pos (HI.out _), HM.out]
            omega
        · have hmb : ((m : Int) == (a : Int)) = false := beq_false_of_ne (by omega)
          clear hma
          go_wp2
          go_roundw
          case rel => exact ⟨pos + q, n, m + 1, hw2, HI.out _, HBi.out _, rfl, by go_num, HX.out⟩
          case measure =>
            rw [iter_pos (HI.out _), HM.out]
            omega
      · have hrb : ((r : Int) == 10) = false := beq_false_of_ne (by omega)
        by_cases hma : m = a
        · have HX : Hid (cntW a (cut (L.drop (pos + q))) m (n + 1) = R) := Lib.hid (by simpa [hr10, hma] using hgr)
          have hmb : ((m : Int) == (a : Int)) = true := by simp [hma]
          clear hgr hma hr10
          go_wp2
          go_roundw
          case rel => exact ⟨pos + q, n + 1, m, hw2, HI.out _, HBi.out _, by go_num, rfl, HX.out⟩
          case measure =>
            rw [iter_pos (HI.out _), HM.out]
            omega
        · have HX : Hid (cntW a (cut (L.drop (pos + q))) m n = R) := Lib.hid (by simpa [hr10, hma] using hgr)
          have hmb : ((m : Int) == (a : Int)) = false := beq_false_of_ne (by omega)
          clear hgr hma hr10
          go_wp2
          go_roundw
          case rel => exact ⟨pos + q, n, m, hw2, HI.out _, HBi.out _, rfl, rfl, HX.out⟩
          case measure =>
            rw [iter_pos (HI.out _), HM.out]
            omega
    · have hnx := fun ty => next_end (P := Tryz.prog) hit hlt ty
      have hs := HS.out
      rw [List.drop_eq_nil_of_le (by omega), cut_nil] at hs
      have HE : Hid (R = (m, n)) := Lib.hid hs.symm
      have h5 : (a : Int) ≤ (m : Int) := by have h := HW3.out; rw [HE.out] at h; simp only at h; omega
      have h6 : (k : Int) ≤ (n : Int) + 1 := by have h := HW4.out; rw [HE.out] at h; simp only at h; omega
      have h7 : n ≤ 1000 := by have h := HR1.out; rw [HE.out] at h; exact h.2
      clear hs
      obtain ⟨w3, hw3⟩ : ∃ w3 : World, w3 = wr := ⟨_, rfl⟩
      subst hw3
      have BE := Lib.hid (below_step BA2.out HB.out)
      go_wp2
      go_ret
      exact ⟨rfl, BE.out⟩
theorem walkCoWhere (L M : List UInt8) (w : World) (ht : Base5 w) (hL : L.length ≤ maxLen) (hM : M.length ≤ maxLen) :
    Calls Tryz.prog 6 #[.string ⟨L.toArray⟩, .string ⟨M.toArray⟩] w fun e w' => e = .returned (.bool true) ∧ Below w.heap.size w w' := by
  by_cases h : L.length ≤ 1000 ∧ M.length ≤ 1000
  · rcases parse_three L with ⟨c, hr, hck⟩ | ⟨a, k, hr, ⟨rfl, rfl⟩ | ⟨c, hp⟩⟩
    · exact walkCoWhere_ok L M w ht h.1 h.2 c hr hck
    · exact walkCoWhere_zero L M w ht h.1 h.2 hr
    · exact walkCoWhere_bad L M w ht h.1 h.2 a k hr c hp
  · exact walkCoWhere_long L M w ht h hL hM

end Go.Proofs.YtogcbmhcddcfkaaGreatDoor
