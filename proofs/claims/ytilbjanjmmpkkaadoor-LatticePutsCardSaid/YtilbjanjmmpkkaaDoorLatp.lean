/- The document's Put and Get of layer 3: contracts, no statement. -/
import Derived.Test.YtilbjanjmmpkkaaDoorLatq
import Derived.Test.YtilbjanjmmpkkaaDoorReft
namespace Go.Proofs.YtilbjanjmmpkkaaDoor
open Go.RowKit
set_option linter.unusedVariables false

/-- The bytes of rows. -/
def putB (up : List Nat) : List UInt8 := numB up.length 1 ++ (up.map fun x => numB x 8).flatten
noncomputable def putR (up : List Nat) : List UInt8 × Int := if checkB up then (putB up, 0) else ([], 1)
theorem putB_len (up : List Nat) : (putB up).length = 8 * up.length + 1 := by
  have h : ∀ l : List Nat, ((l.map fun x => numB x 8).flatten).length = 8 * l.length := by
    intro l
    induction l with
    | nil => rfl
    | cons x l ih => simp [numB_len, ih]; omega
  unfold putB
  rw [List.length_append, numB_len, h]
  omega
theorem flat_more (up : List Nat) (k : Nat) (h : k < up.length) : ((up.take (k + 1)).map fun x => numB x 8).flatten = ((up.take k).map fun x => numB x 8).flatten ++ numB up[k] 8 := by
  rw [List.take_succ_eq_append_getElem h, List.map_append, List.flatten_append]
  rw [List.map_cons, List.map_nil, List.flatten_cons, List.flatten_nil, List.append_nil]
theorem str_app2 (a b : List UInt8) : (⟨a.toArray⟩ : ByteArray) ++ ⟨b.toArray⟩ = ⟨(a ++ b).toArray⟩ := by
  apply ByteArray.ext
  simp
theorem str_val {a b : ByteArray} (h : a = b) : Value.string a = .string b := by rw [h]
theorem flat_len (l : List Nat) : ((l.map fun x => numB x 8).flatten).length = 8 * l.length := by
  induction l with
  | nil => rfl
  | cons x l ih => simp [numB_len, ih]; omega

set_option maxRecDepth 100000 in
set_option maxHeartbeats 1000000 in
theorem r3Put_any (up : List Nat) (A : Option Addr) (n c : Nat) (w : World) (h : ArgU w A n c up) (hn : n ≤ 64) :
    Calls Tryd.prog 24 #[.slice A n c] w fun e w' => e = .returned (.tuple #[.string ⟨(putR up).1.toArray⟩, .int .i64 (putR up).2]) ∧ Below w.heap.size w w' := by
  have HC := Lib.hid (r3Check_any up A n c w h (by omega))
  have HA := Lib.hid h
  have HN := Lib.hid h.len
  clear h
  cases hc : checkB up
  · rw [hc] at HC
    have e : putR up = ([], 1) := by unfold putR; rw [hc]; rfl
    rw [e]
    clear e hc
    go_enter Tryd.func24, Tryd.ntmps24
    go_wp2_with (first | (go_at_call 19; refine HC.out.mono ?_; rintro e w1 ⟨rfl, h1⟩; have B1 := Lib.hid h1; clear h1))
    go_ret2
    exact ⟨rfl, B1.out⟩
  · rw [hc] at HC
    have e : putR up = (putB up, 0) := by unfold putR; rw [hc]; rfl
    rw [e]
    clear e hc
    go_enter Tryd.func24, Tryd.ntmps24
    go_wp2_with (first | (go_at_call 19; refine HC.out.mono ?_; rintro e w1 ⟨rfl, h1⟩; have B1 := Lib.hid h1; clear h1) | (go_at_call 40; refine (rNum_yes n 1 _ (by omega) (by omega) (by omega)).mono ?_; rintro e w2 ⟨rfl, h2⟩; have B2 := Lib.hid (below_step B1.out h2); clear h2))
    go_loopw [5, 6] (fun v i wr => ∃ k : Nat, k ≤ n ∧ i = .int .i64 k ∧ v = .string ⟨(numB n 1 ++ ((up.take k).map fun x => numB x 8).flatten).toArray⟩ ∧ Below w.heap.size w wr) (fun _ i _ => n - (intOf i).toNat)
    case atStart => exact ⟨0, Nat.zero_le _, rfl, str_val (by simp), B2.out⟩
    case round =>
      obtain ⟨k, hk, rfl, rfl, hb⟩ := hrel
      have HB := Lib.hid hb
      clear hb
      by_cases hlt : k < n
      · have hkl : k < up.length := by have := HN.out; omega
        obtain ⟨g, off, rfl, ck⟩ := (HA.out.below HB.out).reads.at_ hkl
        have hx := HA.out.big up[k] (List.getElem_mem hkl)
        have HF := Lib.hid (flat_more up k hkl)
        generalize up[k] = x at ck hx HF
        have hl : (numB n 1 ++ ((up.take k).map fun x => numB x 8).flatten).length ≤ 520 := by
          rw [List.length_append, numB_len, flat_len, List.length_take]
          omega
        have hl8 : (numB x 8).length ≤ 8 := by rw [numB_len]; omega
        have HG : Hid (numB n 1 ++ ((up.take (k + 1)).map fun x => numB x 8).flatten = (numB n 1 ++ ((up.take k).map fun x => numB x 8).flatten) ++ numB x 8) := Lib.hid (by rw [HF.out, List.append_assoc])
        generalize numB n 1 ++ ((up.take k).map fun x => numB x 8).flatten = s at hl HG ⊢
        have HNum := Lib.hid (fun w1 => rNum_yes x 8 w1 hx (by omega) (by omega))
        clear hkl
        go_wp2_with (first | (go_at_call 40; refine (HNum.out _).mono ?_; rintro e w2 ⟨rfl, h2⟩; have B2 := Lib.hid (below_step HB.out h2); clear h2))
        go_roundw
        case rel => exact ⟨k + 1, by omega, by go_num, str_val (by rw [HG.out, str_app2]), B2.out⟩
        case measure => simp [intOf]; omega
      · obtain rfl : k = n := by omega
        have HE : Hid (numB k 1 ++ ((up.take k).map fun x => numB x 8).flatten = putB up) := Lib.hid (by
          unfold putB
          rw [List.take_of_length_le (by have := HN.out; omega), HN.out])
        rw [HE.out]
        obtain ⟨w3, hw3⟩ : ∃ w3 : World, w3 = wr := ⟨_, rfl⟩
        subst hw3
        go_wp2
        go_ret2
        exact ⟨rfl, HB.out⟩

/-! Get. -/
/-- So many numbers of eight bytes, taken one by one. -/
def takeU : Nat → List UInt8 → Int → List Nat × List UInt8 × Int
  | 0, l, e => ([], l, e)
  | k + 1, l, e => ((takeU k l e).1 ++ [(stN (takeU k l e).2.1 (takeU k l e).2.2 8).1], (stN (takeU k l e).2.1 (takeU k l e).2.2 8).2.1, (stN (takeU k l e).2.1 (takeU k l e).2.2 8).2.2)
noncomputable def getR (l : List UInt8) : List Nat × Int :=
  if (takeU (stN l 0 1).1 (stN l 0 1).2.1 (stN l 0 1).2.2).2.2 ≠ 0 then ([], (takeU (stN l 0 1).1 (stN l 0 1).2.1 (stN l 0 1).2.2).2.2)
  else if checkB (takeU (stN l 0 1).1 (stN l 0 1).2.1 (stN l 0 1).2.2).1 = true ∧ (takeU (stN l 0 1).1 (stN l 0 1).2.1 (stN l 0 1).2.2).2.1 = [] then ((takeU (stN l 0 1).1 (stN l 0 1).2.1 (stN l 0 1).2.2).1, 0) else ([], 11)
theorem takeU_len (k : Nat) (l : List UInt8) (e : Int) : (takeU k l e).1.length = k := by
  induction k with
  | zero => rfl
  | succ k ih => unfold takeU; simp [ih]
theorem stN_lt8 (l : List UInt8) (er : Int) : (stN l er 8).1 < 2 ^ 64 := by
  unfold stN
  split
  · simp
  · split
    · simp
    · split
      · simp
      · have := numOf_take_lt l 8 8 (Nat.le_refl _)
        simp only [show (8 : Int).toNat = 8 from rfl] at this ⊢
        omega
theorem takeU_big (k : Nat) (l : List UInt8) (e : Int) : ∀ x ∈ (takeU k l e).1, x < 2 ^ 64 := by
  induction k with
  | zero => intro x hx; cases hx
  | succ k ih =>
    intro x hx
    unfold takeU at hx
    rcases List.mem_append.1 hx with h | h
    · exact ih x h
    · simp at h
      rw [h]
      exact stN_lt8 _ _
theorem takeU_rest (k : Nat) (l : List UInt8) (e : Int) : (takeU k l e).2.1.length ≤ l.length := by
  induction k with
  | zero => exact Nat.le_refl _
  | succ k ih => unfold takeU; exact Nat.le_trans (stN_len _ _ _) ih
theorem own_notQ {w : World} {b Q : Nat} {e t : TypeId} {s n : Nat} {v : Value} {xs : List Value} {cs : Array Value} (h : w.ownsRow b e s v n xs) (hQ : Has w Q t cs) (hne : e ≠ t) : v.ownBlock ≠ some Q := by
  rcases h.2 with ⟨rfl, _⟩ | ⟨g, cap, cur, rfl, _, hg, _⟩
  · simp [Value.ownBlock]
  · simp only [Value.ownBlock]
    intro he
    injection he with he
    exact Has.apart (w := w) (g := g) (t := e) (cs := cur) hg hQ hne he
def GetEnd (l : List Nat) (er : Int) (w : World) (e : Ending) (w' : World) : Prop := ∃ A n c, e = .returned (.tuple #[.slice A n c, .int .i64 er]) ∧ ArgU w' A n c l ∧ Below w.heap.size w w'
theorem argU_nil (w : World) : ArgU w none 0 0 [] := ⟨rfl, Reads.empty, fun h => absurd h (by omega), Nat.le_refl _, Nat.zero_le _, fun x hx => by cases hx⟩

set_option maxRecDepth 100000 in
set_option maxHeartbeats 1000000 in
theorem r3Get_any (l : List UInt8) (w : World) (hl : l.length ≤ 1000000) :
    Calls Tryd.prog 26 #[.string ⟨l.toArray⟩] w (GetEnd (getR l).1 (getR l).2 w) := by
  have hx1 := stN_one l 0
  have hl1 := stN_len l 0 1
  unfold getR
  obtain ⟨x, l1, e1, hst⟩ : ∃ x l1 e1, stN l 0 1 = (x, l1, e1) := ⟨_, _, _, rfl⟩
  have HN := Lib.hid (fun Q w1 (h : RT w1 Q l 0) => rtNum_any Q l 0 1 w1 h hl)
  rw [hst] at hx1 hl1 HN ⊢
  simp only at hx1 hl1 HN ⊢
  clear hst
  obtain ⟨G, hG⟩ : ∃ G : List Nat × Int, G = (if (takeU x l1 e1).2.2 ≠ 0 then ([], (takeU x l1 e1).2.2) else if checkB (takeU x l1 e1).1 = true ∧ (takeU x l1 e1).2.1 = [] then ((takeU x l1 e1).1, 0) else ([], 11)) := ⟨_, rfl⟩
  have HG := Lib.hid hG
  rw [← hG]
  clear hG
  obtain ⟨j0, hj, jz0, jz1, jz2⟩ := info_parts u64info
  go_enter Tryd.func26, Tryd.ntmps26
  have HRT : Hid (RT (w.alloc (.cells #[.string ⟨l.toArray⟩, .int .i64 0] 56)) w.heap.size l 0) := Lib.hid (Has.made _ _ _)
  go_wp2_with (first | (go_at_call 44; refine (HN.out w.heap.size _ HRT.out).mono ?_; rintro e w1 ⟨rfl, h1, h2⟩; have R1 := Lib.hid h1; have B1 := Lib.hid (((Below.refl w.heap.size w).alloc (Nat.le_refl _) (.cells #[.string ⟨l.toArray⟩, .int .i64 0] 56)).trans (below_only h2 (Nat.le_refl _) (by simp))); clear h1 h2))
  go_loopw [6, 7] (fun v i wr => ∃ k : Nat, k ≤ x ∧ i = .int .i64 k ∧ wr.ownsRow w.heap.size 25 1 v k ((takeU k l1 e1).1.map u64V) ∧ RT wr w.heap.size (takeU k l1 e1).2.1 (takeU k l1 e1).2.2 ∧ Below w.heap.size w wr) (fun _ i _ => x - (intOf i).toNat)
  case atStart => exact ⟨0, Nat.zero_le _, rfl, World.ownsRow_nil _ _ _ _, R1.out, B1.out⟩
  case round =>
    obtain ⟨k, hk, rfl, hO, hT, hB⟩ := hrel
    have HO := Lib.hid hO
    have HT := Lib.hid hT
    have HB := Lib.hid hB
    clear hO hT hB
    by_cases hlt : k < x
    · have HNx := Lib.hid (fun w1 (h : RT w1 w.heap.size (takeU k l1 e1).2.1 (takeU k l1 e1).2.2) => rtNum_any w.heap.size (takeU k l1 e1).2.1 (takeU k l1 e1).2.2 8 w1 h (by have := takeU_rest k l1 e1; omega))
      have HU : Hid (takeU (k + 1) l1 e1 = ((takeU k l1 e1).1 ++ [(stN (takeU k l1 e1).2.1 (takeU k l1 e1).2.2 8).1], (stN (takeU k l1 e1).2.1 (takeU k l1 e1).2.2 8).2.1, (stN (takeU k l1 e1).2.1 (takeU k l1 e1).2.2 8).2.2)) := Lib.hid rfl
      generalize stN (takeU k l1 e1).2.1 (takeU k l1 e1).2.2 8 = S at HNx HU
      obtain ⟨y, l2, e2⟩ := S
      go_wp2_with (first
        | (go_at_call 44; refine (HNx.out _ HT.out).mono ?_; rintro e w2 ⟨rfl, h1, h2⟩; have R2 := Lib.hid h1; have O2 := Lib.hid (HO.out.kept h2 (.inr (own_notQ HO.out HT.out (by decide)))); have B2 := Lib.hid (HB.out.trans (below_only h2 (Nat.le_refl _) HB.out.size)); clear h1 h2)
        | (at_builtin; refine wpList_append_own _ rfl _ _ 22 rfl w.heap.size 25 j0 (.int .u64 0) 1 8 Tryd.underlying22 hj jz0 jz1 jz2 rfl (by decide) _ k _ rfl (O2.out.alloc _) ⟨w2.heap.size, 0, none⟩ 1 1 [.int .u64 (y : Int)] rfl rfl ?_ ?_ ?_ ?_ ?_ ?_; (exact cell_one_new _ _ _); (intro u hu; simp at hu; subst hu; rfl); (unfold maxLen; omega); (omega); (have hq := B2.out.size; simp; omega); intro v4 w4 h7 h8 h9; have O4 := Lib.hid h7; have R4 := Lib.hid ((Has.alloc R2.out (.cells #[.int .u64 (y : Int)] 25)).grown h8 (fun e => own_notQ O2.out R2.out (by decide) e.symm)); have B4 := Lib.hid (below_own (B2.out.alloc B2.out.size (.cells #[.int .u64 (y : Int)] 25)) h8 (O2.out.alloc (.cells #[.int .u64 (y : Int)] 25)) (by have := B2.out.size; simp; omega)); clear h7 h8 h9))
      go_roundw
      case rel =>
        refine ⟨k + 1, by omega, by go_num, ?_, ?_, B4.out⟩
        · rw [HU.out, List.map_append]
          exact O4.out
        · rw [HU.out]
          exact R4.out
      case measure => simp [intOf]; omega
    · obtain rfl : k = x := by omega
      obtain ⟨w3, hw3⟩ : ∃ w3 : World, w3 = wr := ⟨_, rfl⟩
      subst hw3
      obtain ⟨A', c', hv, ha, hrow⟩ := argU_own HO.out (takeU_len k l1 e1).symm (takeU_big k l1 e1)
      have HQ := Lib.hid ha
      have HRW := Lib.hid hrow
      have hkk : (takeU k l1 e1).1.length = k := takeU_len k l1 e1
      have HKK := Lib.hid hkk
      subst hv
      clear ha HO hrow hkk
      have HTD := HT
      generalize takeU k l1 e1 = S at HTD HT HQ HG HKK HRW
      obtain ⟨ul, rl, er⟩ := S
      have c0 : w3.cell? ⟨w.heap.size, 0, none⟩ = some (.string ⟨rl.toArray⟩) := Has.cell0 HT.out
      have c1 : w3.cell? ⟨w.heap.size, 1, none⟩ = some (.int .i64 er) := Has.cell1 HT.out
      by_cases h0 : er = 0
      · subst h0
        have HCk := Lib.hid (r3Check_any ul A' k c' w3 HQ.out (by omega))
        have HTK := HT
        cases hc : checkB ul
        · rw [hc] at HCk
          have HE : Hid (G = ([], 11)) := Lib.hid (by rw [HG.out]; simp [hc])
          clear hc
          go_wp2_with (first | (go_at_call 19; refine HCk.out.mono ?_; rintro e w5 ⟨rfl, h5⟩; have B5 := Lib.hid (below_step HB.out h5); have R5 := Lib.hid (Has.below HTK.out h5 (Has.lt HTK.out)); have d0 : w5.cell? ⟨w.heap.size, 0, none⟩ = some (.string ⟨rl.toArray⟩) := Has.cell0 R5.out; clear h5))
          go_ret2
          rw [HE.out]
          exact ⟨_, _, _, rfl, argU_nil _, B5.out⟩
        · rw [hc] at HCk
          rcases rl with _ | ⟨d, rl⟩
          · have HE : Hid (G = (ul, 0)) := Lib.hid (by rw [HG.out]; simp [hc])
            clear hc
            go_wp2_with (first | (go_at_call 19; refine HCk.out.mono ?_; rintro e w5 ⟨rfl, h5⟩; have B5 := Lib.hid (below_step HB.out h5); have R5 := Lib.hid (Has.below HTK.out h5 (Has.lt HTK.out)); have Q5 := Lib.hid (HQ.out.below h5); have d0 : w5.cell? ⟨w.heap.size, 0, none⟩ = some (.string ⟨[].toArray⟩) := Has.cell0 R5.out; clear h5))
            go_ret2
            rw [HE.out]
            exact ⟨_, _, _, rfl, Q5.out, B5.out⟩
          · have HE : Hid (G = ([], 11)) := Lib.hid (by rw [HG.out]; simp [hc])
            clear hc
            go_wp2_with (first | (go_at_call 19; refine HCk.out.mono ?_; rintro e w5 ⟨rfl, h5⟩; have B5 := Lib.hid (below_step HB.out h5); have R5 := Lib.hid (Has.below HTK.out h5 (Has.lt HTK.out)); have d0 : w5.cell? ⟨w.heap.size, 0, none⟩ = some (.string ⟨(d :: rl).toArray⟩) := Has.cell0 R5.out; clear h5))
            go_ret2
            rw [HE.out]
            exact ⟨_, _, _, rfl, argU_nil _, B5.out⟩
      · have q2 : (er != 0) = true := by simpa using h0
        have HE : Hid (G = ([], er)) := Lib.hid (by rw [HG.out]; simp [h0])
        clear h0
        go_wp2
        go_region
        all_goals
          go_wp2
          go_ret2
          rw [HE.out]
          exact ⟨_, _, _, rfl, argU_nil _, HB.out.drew⟩

end Go.Proofs.YtilbjanjmmpkkaaDoor
