/- Package lattice: Put and Get: contracts, no statement. -/
import Derived.Test.YtilbjanjmmpkkaaDoorLakg
import Derived.Test.YtilbjanjmmpkkaaDoorLakh
import Derived.Test.YtilbjanjmmpkkaaDoorOcm
namespace Go.Proofs.YtilbjanjmmpkkaaDoor
open Go.RowKit
set_option linter.unusedVariables false

theorem own_num (w : World) (x n : Nat) (hn : n ≤ 8) : (w.alloc (.cells ((numB x n).map byteV).toArray 5)).ownsRow w.heap.size 5 1 (.slice (some ⟨w.heap.size, 0, none⟩) n n) n ((numB x n).map byteV) :=
  ⟨by simp [numB_len], .inr ⟨w.heap.size, n, _, rfl, Nat.le_refl _, heap_alloc_new w _, Nat.le_refl _, by unfold maxLen; omega, by simp [numB_len], by rw [List.toList_toArray]; exact List.take_of_length_le (by simp [numB_len])⟩⟩
theorem own_low {w : World} {b b' : Nat} {e : TypeId} {s n : Nat} {v : Value} {xs : List Value} (h : w.ownsRow b e s v n xs) (hb : b' ≤ b) : w.ownsRow b' e s v n xs :=
  ⟨h.1, h.2.imp id (fun ⟨g, cap, cur, h1, h2, h3⟩ => ⟨g, cap, cur, h1, Nat.le_trans hb h2, h3⟩)⟩
theorem tk_base {w : World} {base P : Nat} {l : List UInt8} {er : Int} (h : Tk w base P l er) : base ≤ P := by
  obtain ⟨_, _, _, hb, _⟩ := h
  exact hb
theorem tk_apart {w : World} {base P g : Nat} {l : List UInt8} {er : Int} {cs : Array Value} (h : Tk w base P l er) (hg : Has w g 25 cs) : g ≠ P := by
  obtain ⟨_, _, hP, _⟩ := h
  exact hg.apart hP (by decide)
/-- The bytes up to row k. -/
def preB (up : List Nat) (k : Nat) : List UInt8 := numB up.length 1 ++ ((up.take k).map fun x => numB x 8).flatten
theorem preB_zero (up : List Nat) : preB up 0 = numB up.length 1 := by simp [preB]
theorem preB_more (up : List Nat) (k : Nat) (h : k < up.length) : preB up (k + 1) = preB up k ++ numB up[k] 8 := by
  unfold preB
  rw [flat_more up k h, List.append_assoc]
theorem preB_all (up : List Nat) : preB up up.length = putB up := by
  unfold preB putB
  rw [List.take_length]

set_option maxRecDepth 100000 in
set_option maxHeartbeats 2000000 in
theorem laPut_any (up : List Nat) (A : Option Addr) (n c : Nat) (w : World) (ht : Base3 w) (h : ArgU w A n c up) (hn : n ≤ 1000000) :
    Calls Tryd.prog 23 #[.slice A n c] w (PutEnd (putR up).1 (putR up).2 w) := by
  have HC := Lib.hid (laCheck_any up A n c w ht h hn)
  have HA := Lib.hid h
  have HN := Lib.hid h.len
  clear h ht
  cases hc : checkB up
  · rw [hc] at HC
    have e : putR up = ([], 1) := by unfold putR; rw [hc]; rfl
    rw [e]
    clear e hc
    go_enter Tryd.func23, Tryd.ntmps23
    go_wp2_with (first | (go_at_call 18; refine HC.out.mono ?_; rintro e w1 ⟨rfl, h1⟩; have B1 := Lib.hid h1; clear h1))
    go_ret2
    exact ⟨none, 0, rfl, Nat.le_refl _, Nat.zero_le _, Row.empty, B1.out⟩
  · have h64 : n ≤ 64 := by
      have := (checkB_iff.1 hc).1.2
      rw [HN.out]
      exact this
    rw [hc] at HC
    have e : putR up = (putB up, 0) := by unfold putR; rw [hc]; rfl
    rw [e]
    clear e hc
    obtain ⟨i0, hi, hz0, hz1, hz2⟩ := info_parts u8info
    go_enter Tryd.func23, Tryd.ntmps23
    go_wp2_with (first
      | (go_at_call 18; refine HC.out.mono ?_; rintro e w1 ⟨rfl, h1⟩; have B1 := Lib.hid h1; clear h1)
      | (go_at_call 39; refine (Num_yes n 1 _ (by omega) (by omega) (by omega)).mono ?_; rintro e w' ⟨rfl, rfl⟩; have O1 := Lib.hid (own_num w1 n 1 (by omega)); have B2 := Lib.hid (B1.out.alloc B1.out.size (.cells ((numB n 1).map byteV).toArray 5))))
    have O2 : Hid ((w1.alloc (.cells ((numB n 1).map byteV).toArray 5)).ownsRow w.heap.size 5 1 (.slice (some ⟨w1.heap.size, 0, none⟩) 1 1) 1 ((preB up 0).map byteV)) := Lib.hid (by
      rw [preB_zero, ← HN.out]
      exact own_low O1.out B1.out.size)
    go_loopw [4, 16] (fun v i wr => ∃ k : Nat, k ≤ n ∧ i = .int .i64 k ∧ wr.ownsRow w.heap.size 5 1 v (1 + 8 * k) ((preB up k).map byteV) ∧ Below w.heap.size w wr) (fun _ i _ => n - (intOf i).toNat)
    case atStart => exact ⟨0, Nat.zero_le _, rfl, O2.out, B2.out⟩
    case round =>
      obtain ⟨k, hk, rfl, hO, hB⟩ := hrel
      have HO := Lib.hid hO
      have HB := Lib.hid hB
      clear hO hB
      by_cases hkn : k < n
      · have hkl : k < up.length := by have := HN.out; omega
        have HE := Lib.hid (preB_more up k hkl)
        obtain ⟨g, off, rfl, ck⟩ := (HA.out.below HB.out).reads.at_ hkl
        have hx := HA.out.big up[k] (List.getElem_mem hkl)
        generalize up[k] = x at HE ck hx
        have HX := Lib.hid hx
        clear hx hkl
        go_wp2_with (first
          | (go_at_call 39; refine (Num_yes x 8 _ HX.out (by omega) (by omega)).mono ?_; rintro e w' ⟨rfl, rfl⟩)
          | (at_builtin; refine wpList_append_bytes rfl _ _ 31 rfl w.heap.size 5 i0 Tryd.underlying31 hi hz0 hz1 hz2 _ (1 + 8 * k) _ rfl (HO.out.alloc (.cells ((numB x 8).map byteV).toArray 5)) (some ⟨wr.heap.size, 0, none⟩) 8 8 (numB x 8) rfl (numB_len x 8).symm (fun h => by cases h) (row_made wr (numB x 8)).reads (by omega) (by have := HB.out.size; simp; omega) ?_; intro v3 w3 h7 h8; rw [← List.map_append, ← HE.out] at h7; have O3 := Lib.hid h7; have B3 := Lib.hid (below_own (HB.out.alloc HB.out.size (.cells ((numB x 8).map byteV).toArray 5)) h8 (HO.out.alloc (.cells ((numB x 8).map byteV).toArray 5)) (by have := HB.out.size; simp; omega)); clear h7 h8))
        go_roundw
        case rel => exact ⟨k + 1, by omega, by go_num, O3.out, B3.out⟩
        case measure => simp [intOf]; omega
      · obtain rfl : k = n := by omega
        have hall : preB up k = putB up := by
          have := preB_all up
          rwa [← HN.out] at this
        have hO := HO.out
        rw [hall] at hO
        obtain ⟨A', c', hv, h1, h2⟩ := own_slice hO
        have hlen : 1 + 8 * k = (putB up).length := by rw [putB_len, ← HN.out]; omega
        have HL := Lib.hid hlen
        subst hv
        have HR := Lib.hid (Row.of_own hO)
        obtain ⟨w4, hw4⟩ : ∃ w4 : World, w4 = wr := ⟨_, rfl⟩
        subst hw4
        clear hO hall HO hlen
        go_wp2
        go_ret2
        rw [HL.out] at h1
        rw [HL.out]
        exact ⟨A', c', rfl, h1, h2, HR.out, HB.out⟩

/-! Get. -/
theorem make_u64su (n : Nat) (hn : n ≤ 1000000) (w : World) : (Instr.makeSlice 22 (.int .u64 n) (.int .u64 n)).run Tryd.prog w = .ok (.slice (some ⟨w.heap.size, 0, none⟩) n n) (w.alloc (.cells (madeCells #[.int .u64 0] n) 25)) := by
  obtain ⟨i0, hi, hz0, hz1, hz2⟩ := info_parts u64info
  have := run_make (P := Tryd.prog) (w := w) 22 25 i0 (.int .u64 0) Tryd.underlying22 hi hz0 .u64 .u64 n n (by omega) (by omega) (by rw [hz2]; omega) (by omega)
  simp only [Int.toNat_natCast, hz1, Nat.mul_one] at this
  exact this
/-- So many taken, the others 0. -/
def gotN (x : Nat) (l : List Nat) : List Nat := l ++ List.replicate (x - l.length) 0
theorem gotN_len (x : Nat) (l : List Nat) (h : l.length ≤ x) : (gotN x l).length = x := by simp [gotN]; omega
theorem gotN_more (x : Nat) (l : List Nat) (y : Nat) (h : l.length < x) : gotN x (l ++ [y]) = (gotN x l).set l.length y := by
  unfold gotN
  rw [List.set_append_right _ _ (Nat.le_refl _), Nat.sub_self]
  obtain ⟨m, hm⟩ : ∃ m, x - l.length = m + 1 := ⟨x - l.length - 1, by omega⟩
  have hm2 : x - (l ++ [y]).length = m := by simp; omega
  rw [hm, hm2, List.replicate_succ, List.set_cons_zero, List.append_assoc]
  rfl
theorem gotN_all (x : Nat) (l : List Nat) (h : l.length = x) : gotN x l = l := by simp [gotN, h]

set_option maxRecDepth 100000 in
set_option maxHeartbeats 2000000 in
theorem laGet_any (l : List UInt8) (A : Option Addr) (n c : Nat) (w : World) (ht : Base3 w) (hn : n = l.length) (hc : n ≤ c) (hl : l.length ≤ 100000) (h : Reads w A (l.map byteV)) :
    Calls Tryd.prog 25 #[.slice A n c] w (GetEnd (getR l).1 (getR l).2 w) := by
  subst hn
  have HT := Lib.hid ht
  have HK := Lib.hid (Take_any A c l w (by omega) h)
  clear h hc ht
  have hx1 := stN_one l 0
  unfold getR
  have HN := Lib.hid (fun base P w1 (h : Tk w1 base P l 0) => tNum_any base P l 0 1 w1 h)
  obtain ⟨x, l1, e1, hst⟩ : ∃ x l1 e1, stN l 0 1 = (x, l1, e1) := ⟨_, _, _, rfl⟩
  rw [hst] at hx1 HN ⊢
  simp only at hx1 HN ⊢
  clear hst
  obtain ⟨G, hG⟩ : ∃ G : List Nat × Int, G = (if (takeU x l1 e1).2.2 ≠ 0 then ([], (takeU x l1 e1).2.2) else if checkB (takeU x l1 e1).1 = true ∧ (takeU x l1 e1).2.1 = [] then ((takeU x l1 e1).1, 0) else ([], 11)) := ⟨_, rfl⟩
  have HG := Lib.hid hG
  rw [← hG]
  clear hG
  have hmk := make_u64su x (by omega)
  go_enter Tryd.func25, Tryd.ntmps25
  go_wp2_with (first
    | (go_at_call 41; refine HK.out.mono ?_; rintro e w1 ⟨P, rfl, h1, h2⟩; have T1 := Lib.hid h1; have B1 := Lib.hid h2; clear h1 h2)
    | (go_at_call 42; refine (HN.out _ _ _ T1.out).mono ?_; rintro e w2 ⟨rfl, h3, h4⟩; have T2 := Lib.hid h3; have B2 := Lib.hid (B1.out.trans (below_only h4 (tk_base h3) B1.out.size)); clear h3 h4))
  go_loopw [15] (fun i wr => ∃ k : Nat, k ≤ x ∧ i = .int .i64 k ∧ Has wr w2.heap.size 25 ((gotN x (takeU k l1 e1).1).map u64V).toArray ∧ Tk wr w.heap.size P (takeU k l1 e1).2.1 (takeU k l1 e1).2.2 ∧ Below w.heap.size w wr) (fun i _ => x - (intOf i).toNat)
  case atStart =>
    refine ⟨0, Nat.zero_le _, rfl, ?_, T2.out.below ((Below.refl _ _).alloc (Nat.le_refl _) _), B2.out.alloc B2.out.size _⟩
    have e : gotN x (takeU 0 l1 e1).1 = List.replicate x 0 := by simp [gotN, takeU]
    rw [e, ← made_u64]
    exact Has.made _ _ _
  case round =>
    obtain ⟨k, hk, rfl, hH, hT, hB⟩ := hrel
    have HH := Lib.hid hH
    have HTk := Lib.hid hT
    have HB := Lib.hid hB
    clear hH hT hB
    by_cases hkx : k < x
    · have HNx := Lib.hid (tNum_any w.heap.size P (takeU k l1 e1).2.1 (takeU k l1 e1).2.2 8 wr HTk.out)
      have HU : Hid (takeU (k + 1) l1 e1 = ((takeU k l1 e1).1 ++ [(stN (takeU k l1 e1).2.1 (takeU k l1 e1).2.2 8).1], (stN (takeU k l1 e1).2.1 (takeU k l1 e1).2.2 8).2.1, (stN (takeU k l1 e1).2.1 (takeU k l1 e1).2.2 8).2.2)) := Lib.hid rfl
      have HL := Lib.hid (takeU_len k l1 e1)
      generalize stN (takeU k l1 e1).2.1 (takeU k l1 e1).2.2 8 = S at HNx HU
      obtain ⟨y, l2, e2⟩ := S
      have HGM := Lib.hid (gotN_more x (takeU k l1 e1).1 y (by rw [HL.out]; exact hkx))
      rw [HL.out] at HGM
      have hgl : k < (gotN x (takeU k l1 e1).1).length := by rw [gotN_len _ _ (by rw [HL.out]; omega)]; exact hkx
      generalize gotN x (takeU k l1 e1).1 = ol at HH HGM hgl
      have i0 : (0 : Int) ≤ (k : Int) := by omega
      have i1 : (k : Int) < (x : Int) := by omega
      go_wp2_with (first
        | (go_at_call 42; refine HNx.out.mono ?_; rintro e w3 ⟨rfl, h3, h4⟩; have T3 := Lib.hid h3; have H3 := Lib.hid (HH.out.grown h4 (fun e => tk_apart HTk.out HH.out (by injection e))); have B3 := Lib.hid (HB.out.trans (below_only h4 (tk_base h3) HB.out.size)); have c3 := way_cell H3.out hgl; have f3 := H3.out.free k; clear h3 h4))
      go_roundw
      case rel =>
        refine ⟨k + 1, by omega, by go_num, ?_, ?_, B3.out.setCell (p := ⟨w2.heap.size, k, none⟩) B2.out.size _⟩
        · rw [HU.out, HGM.out]
          exact way_store H3.out k y
        · rw [HU.out]
          exact T3.out.beside H3.out (by decide) (by decide) (only_store (only_refl w3 w2.heap.size) k _)
      case measure => simp [intOf]; omega
    · obtain rfl : k = x := by omega
      have hlen := takeU_len k l1 e1
      have hbig := takeU_big k l1 e1
      have hH := HH.out
      rw [gotN_all k _ hlen] at hH
      have HR := Lib.hid (has_argU (n := k) hH hlen.symm (by unfold maxLen; omega) hbig)
      have HTD := Lib.hid (tDone_any HTk.out)
      clear hH HH hbig hlen
      obtain ⟨w4, hw4⟩ : ∃ w4 : World, w4 = wr := ⟨_, rfl⟩
      subst hw4
      clear HTk
      generalize takeU k l1 e1 = S at HR HTD HG
      obtain ⟨ul, rl, er⟩ := S
      by_cases hd : dn rl er = 0
      · have hcond : er = 0 ∧ rl = [] := by
          unfold dn at hd
          by_cases h0 : er = 0
          · subst h0
            simp only [ne_eq, not_true, if_false] at hd
            rcases rl with _ | ⟨b, rl⟩
            · exact ⟨rfl, rfl⟩
            · simp at hd
          · simp [h0] at hd
        obtain ⟨rfl, rfl⟩ := hcond
        rw [hd] at HTD
        have HC := Lib.hid (laCheck_any ul (some ⟨w2.heap.size, 0, none⟩) k k w4 (HT.out.below HB.out) HR.out (by omega))
        cases hck : checkB ul
        · rw [hck] at HC
          have HE : Hid (G = ([], 11)) := Lib.hid (by rw [HG.out]; simp [hck])
          clear hck hd
          go_wp2_with (first
            | (go_at_call 43; refine HTD.out.mono ?_; rintro e w' ⟨rfl, rfl⟩)
            | (go_at_call 18; refine HC.out.mono ?_; rintro e w5 ⟨rfl, h5⟩; have B5 := Lib.hid (below_step HB.out h5); clear h5))
          go_ret2
          rw [HE.out]
          exact ⟨_, _, _, rfl, argU_nil _, B5.out⟩
        · rw [hck] at HC
          have HE : Hid (G = (ul, 0)) := Lib.hid (by rw [HG.out]; simp [hck])
          clear hck hd
          go_wp2_with (first
            | (go_at_call 43; refine HTD.out.mono ?_; rintro e w' ⟨rfl, rfl⟩)
            | (go_at_call 18; refine HC.out.mono ?_; rintro e w5 ⟨rfl, h5⟩; have B5 := Lib.hid (below_step HB.out h5); have R5 := Lib.hid (HR.out.below h5); clear h5))
          go_ret2
          rw [HE.out]
          exact ⟨_, _, _, rfl, R5.out, B5.out⟩
      · have HE : Hid (G = ([], dn rl er)) := Lib.hid (by
          rw [HG.out]
          unfold dn at hd ⊢
          by_cases h0 : er = 0
          · subst h0
            rcases rl with _ | ⟨b, rl⟩
            · simp at hd
            · simp
          · simp [h0])
        generalize dn rl er = d at hd HTD HE
        have hd2 : (d != 0) = true := by simpa using hd
        clear hd HR
        go_wp2_with (first
          | (go_at_call 43; refine HTD.out.mono ?_; rintro e w' ⟨rfl, rfl⟩))
        go_ret2
        rw [HE.out]
        exact ⟨_, _, _, rfl, argU_nil _, HB.out⟩

end Go.Proofs.YtilbjanjmmpkkaaDoor
