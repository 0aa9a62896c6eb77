import Derived.Test.YtdoabcbembinjaaDoorJ02
import Derived.Test.YtdoabcbembinjaaDoorJ05
import Derived.Test.YtdoabcbembinjaaDoorJ00
/- Of a claim's texts, joined: Chx Dnw Dpg Dlw Daw Dls Drf Dss Dtw Dym Dot. No statement but in the last. -/
section
namespace Go.Proofs.YtdoabcbembinjaaDoor
open Go.RowKit
set_option linter.unusedVariables false

theorem reti {a b : Int} (h : a = b) : Ending.returned (.int .i64 a) = .returned (.int .i64 b) := by rw [h]
theorem Ints6.below9 {w w' : World} {A : Option Addr} {n : Nat} {l : List Int} (h : Ints6 w A n l) (hb : Below w.heap.size w w') : Ints6 w' A n l := ⟨h.len, h.reads.keep_ hb⟩
theorem isLong_any (z : Int) (w : World) : Calls Tryd.prog 23 #[.int .i64 z] w fun e w' => e = .returned (.bool (lgB z)) ∧ w = w' := by
  unfold lgB
  by_cases h0 : 16 < z
  · by_cases h1 : z ≤ 400
    · go_enter Tryd.func23, Tryd.ntmps23
      go_wp2
      go_ret
      exact ⟨retb (by simp; omega), rfl⟩
    · go_enter Tryd.func23, Tryd.ntmps23
      go_wp2
      go_ret
      exact ⟨retb (by simp; omega), rfl⟩
  · go_enter Tryd.func23, Tryd.ntmps23
    go_wp2
    go_ret
    exact ⟨retb (by simp; omega), rfl⟩
theorem isPage_any (z : Int) (w : World) : Calls Tryd.prog 45 #[.int .i64 z] w fun e w' => e = .returned (.bool (pgOk z)) ∧ w = w' := by
  unfold pgOk
  by_cases h0 : 2 ≤ z
  · by_cases h1 : z ≤ 999
    · go_enter Tryd.func45, Tryd.ntmps45
      go_wp2
      go_ret
      exact ⟨retb (by simp; omega), rfl⟩
    · go_enter Tryd.func45, Tryd.ntmps45
      go_wp2
      go_ret
      exact ⟨retb (by simp; omega), rfl⟩
  · go_enter Tryd.func45, Tryd.ntmps45
    go_wp2
    go_ret
    exact ⟨retb (by simp; omega), rfl⟩
theorem hNeed_any (z : Int) (w : World) : Calls Tryd.prog 11 #[.int .i64 z] w fun e w' => e = .returned (.int .i64 (needN z : Int)) ∧ w = w' := by
  have HL := Lib.hid (isLong_any z w)
  cases h : lgB z
  · rw [h] at HL
    rw [need_no h]
    go_enter Tryd.func11, Tryd.ntmps11
    go_wp2_with (go_at_call 23; (with_reducible refine HL.out.mono ?_); rintro e w1 ⟨rfl, rfl⟩)
    go_ret
    exact ⟨rfl, rfl⟩
  · rw [h] at HL
    obtain ⟨e, h1, h2⟩ := need_pos h
    have HE := Lib.hid e
    clear e
    obtain ⟨n, rfl⟩ : ∃ n : Nat, z = (n : Int) := ⟨z.toNat, by omega⟩
    go_enter Tryd.func11, Tryd.ntmps11
    go_wp2_with (go_at_call 23; (with_reducible refine HL.out.mono ?_); rintro e w1 ⟨rfl, rfl⟩)
    go_ret
    exact ⟨reti (by rw [HE.out]; simp only [Int.toNat_natCast]; omega), rfl⟩
set_option maxRecDepth 100000 in
theorem r9Need_any (z : Int) (w : World) : Calls Tryd.prog 12 #[.int .i64 z] w fun e w' => e = .returned (.int .i64 (needN z : Int)) ∧ w = w' := by
  by_cases h0 : 16 < z
  · by_cases h1 : z ≤ 400
    · obtain ⟨n, rfl⟩ : ∃ n : Nat, z = (n : Int) := ⟨z.toNat, by omega⟩
      have HE : Hid (needN (n : Int) = (n + 118) / 119) := Lib.hid (by unfold needN; rw [if_pos ⟨h0, h1⟩]; simp)
      go_enter Tryd.func12, Tryd.ntmps12
      go_wp2
      go_loop [3] (fun s => ∃ k : Nat, s = .int .i64 k ∧ k ≤ 4 ∧ ((k : Int) - 1) * 119 < n) (fun s => 5 - (intOf s).toNat)
      case atStart => exact ⟨0, rfl, by omega, by omega⟩
      case round =>
        obtain ⟨k, rfl, hk, hk2⟩ := hrel
        by_cases hlt : (k : Int) * 119 < n
        · go_wp2
          go_round
          case rel => exact ⟨k + 1, by go_num, by omega, by omega⟩
          case measure => simp [intOf]; omega
        · go_wp2
          go_ret
          exact ⟨reti (by rw [HE.out]; omega), rfl⟩
    · rw [show needN z = 0 by unfold needN; rw [if_neg (by omega)]]
      go_enter Tryd.func12, Tryd.ntmps12
      go_wp2
      go_loop [3] (fun s => s = .int .i64 0) (fun s => 0)
      case atStart => rfl
      case round =>
        subst hrel
        go_wp2
        go_ret
        exact ⟨rfl, rfl⟩
  · rw [show needN z = 0 by unfold needN; rw [if_neg (by omega)]]
    go_enter Tryd.func12, Tryd.ntmps12
    go_wp2
    go_loop [3] (fun s => s = .int .i64 0) (fun s => 0)
    case atStart => rfl
    case round =>
      subst hrel
      go_wp2
      go_ret
      exact ⟨rfl, rfl⟩
theorem r9part_any (n k : Nat) (w : World) (hn : n ≤ 600) (hk : 119 * k ≤ n) : Calls Tryd.prog 31 #[.int .i64 n, .int .i64 k] w fun e w' => e = .returned (.int .i64 (partZ n k : Int)) ∧ w = w' := by
  unfold partZ
  by_cases h : 119 < n - 119 * k
  · rw [show min (n - 119 * k) 119 = 119 by omega]
    have h' : (119 : Int) < (n : Int) - 119 * (k : Int) := by omega
    go_enter Tryd.func31, Tryd.ntmps31
    go_wp2
    go_ret
    exact ⟨rfl, rfl⟩
  · rw [show min (n - 119 * k) 119 = n - 119 * k by omega]
    have h' : ¬ (119 : Int) < (n : Int) - 119 * (k : Int) := by omega
    have HE : Hid (((n - 119 * k : Nat) : Int) = (n : Int) - 119 * (k : Int)) := Lib.hid (by omega)
    go_enter Tryd.func31, Tryd.ntmps31
    go_wp2
    go_ret
    exact ⟨reti HE.out.symm, rfl⟩

set_option maxRecDepth 100000 in
theorem indexI_any (A : Option Addr) (n c : Nat) (l : List Int) (x : Int) (w : World) (h : Ints6 w A n l) (hn : n ≤ 1000000) :
    Calls Tryd.prog 63 #[.slice A n c, .int .i64 x] w fun e w' => ∃ i : Int, e = .returned (.int .i64 i) ∧ decide (0 ≤ i) = decide (x ∈ l) ∧ w = w' := by
  have HA := Lib.hid h
  have HN := Lib.hid h.len
  clear h
  go_enter Tryd.func63, Tryd.ntmps63
  go_wp2
  go_loop [8] (fun i => ∃ k : Nat, k ≤ n ∧ i = .int .i64 k ∧ x ∉ l.take k) (fun i => n - (intOf i).toNat)
  case atStart => exact ⟨0, Nat.zero_le _, rfl, by simp⟩
  case round =>
    obtain ⟨k, hk, rfl, hj⟩ := hrel
    have HJ := Lib.hid hj
    clear hj
    by_cases hlt : k < n
    · have hkl : k < l.length := by have := HN.out; omega
      obtain ⟨g, off, rfl, ck⟩ := HA.out.at_ (List.getElem?_eq_getElem hkl)
      by_cases hq : x = l[k]
      · have HF : Hid (decide (0 ≤ (k : Int)) = decide (x ∈ l)) := Lib.hid (by
          rw [hq]
          simp)
        have hb : (x == l[k]) = true := by simpa using hq
        generalize l[k] = y at ck hb
        clear hq hkl
        go_wp2
        go_ret
        exact ⟨_, rfl, by have := HF.out; simpa using this, rfl⟩
      · have HF : Hid (x ∉ l.take (k + 1)) := Lib.hid (by
          rw [List.take_succ_eq_append_getElem hkl, List.mem_append, not_or]
          exact ⟨HJ.out, by simpa using hq⟩)
        have hb : (x == l[k]) = false := by simpa using hq
        generalize l[k] = y at ck hb
        clear hq hkl
        go_wp2
        go_round
        case rel => exact ⟨k + 1, by omega, by go_num, HF.out⟩
        case measure => simp [intOf]; omega
    · obtain rfl : k = n := by omega
      have HF : Hid (x ∉ l) := Lib.hid (by
        have := HJ.out
        rw [List.take_of_length_le (by rw [← HN.out]; exact Nat.le_refl _)] at this
        exact this)
      go_wp2
      go_ret
      exact ⟨_, rfl, by simp [HF.out], rfl⟩
theorem containsI_any (A : Option Addr) (n c : Nat) (l : List Int) (x : Int) (w : World) (h : Ints6 w A n l) (hn : n ≤ 1000000) :
    Calls Tryd.prog 46 #[.slice A n c, .int .i64 x] w fun e w' => e = .returned (.bool (decide (x ∈ l))) ∧ w = w' := by
  have HI := Lib.hid (indexI_any A n c l x w h hn)
  clear h
  go_enter Tryd.func46, Tryd.ntmps46
  go_wp2_with (go_at_call 63; (with_reducible refine HI.out.mono ?_); rintro e w1 ⟨i, rfl, hi, rfl⟩; have HX := Lib.hid hi; clear hi)
  go_ret
  exact ⟨retb (by have := HX.out; simpa using this), rfl⟩
set_option maxRecDepth 100000 in
theorem r9has_any (A : Option Addr) (n c : Nat) (l : List Int) (x : Int) (w : World) (h : Ints6 w A n l) (hn : n ≤ 1000000) :
    Calls Tryd.prog 28 #[.slice A n c, .int .i64 x] w fun e w' => e = .returned (.bool (decide (x ∈ l))) ∧ w = w' := by
  have HA := Lib.hid h
  have HN := Lib.hid h.len
  clear h
  go_enter Tryd.func28, Tryd.ntmps28
  go_wp2
  go_loop [5] (fun i => ∃ k : Nat, k ≤ n ∧ i = .int .i64 k ∧ x ∉ l.take k) (fun i => n - (intOf i).toNat)
  case atStart => exact ⟨0, Nat.zero_le _, rfl, by simp⟩
  case round =>
    obtain ⟨k, hk, rfl, hj⟩ := hrel
    have HJ := Lib.hid hj
    clear hj
    by_cases hlt : k < n
    · have hkl : k < l.length := by have := HN.out; omega
      obtain ⟨g, off, rfl, ck⟩ := HA.out.at_ (List.getElem?_eq_getElem hkl)
      by_cases hq : x = l[k]
      · have HF : Hid (decide (x ∈ l) = true) := Lib.hid (by
          rw [hq]
          simp)
        have hb : (l[k] == x) = true := by simpa using hq.symm
        generalize l[k] = y at ck hb
        clear hq hkl
        go_wp2
        go_ret
        exact ⟨retb HF.out.symm, rfl⟩
      · have HF : Hid (x ∉ l.take (k + 1)) := Lib.hid (by
          rw [List.take_succ_eq_append_getElem hkl, List.mem_append, not_or]
          exact ⟨HJ.out, by simpa using hq⟩)
        have hb : (l[k] == x) = false := by simpa using (fun e => hq e.symm)
        generalize l[k] = y at ck hb
        clear hq hkl
        go_wp2
        go_round
        case rel => exact ⟨k + 1, by omega, by go_num, HF.out⟩
        case measure => simp [intOf]; omega
    · obtain rfl : k = n := by omega
      have HF : Hid (decide (x ∈ l) = false) := Lib.hid (by
        have := HJ.out
        rw [List.take_of_length_le (by rw [← HN.out]; exact Nat.le_refl _)] at this
        simpa using this)
      go_wp2
      go_ret
      exact ⟨retb HF.out.symm, rfl⟩

theorem Ints6.take {w : World} {A : Option Addr} {n : Nat} {l : List Int} (h : Ints6 w A n l) {k : Nat} (hk : k ≤ n) : Ints6 w A k (l.take k) :=
  ⟨by rw [List.length_take, ← h.len]; omega, by rw [List.map_take]; exact h.reads.take k⟩
def okTo (l : List Int) (k : Nat) : Prop := ∀ j, j < k → pgOk (l.getD j 0) = true ∧ l.getD j 0 ∉ l.take j
theorem okTo_snoc {l : List Int} {k : Nat} (h : okTo l k) (h1 : pgOk (l.getD k 0) = true) (h2 : l.getD k 0 ∉ l.take k) : okTo l (k + 1) := fun j hj => by
  by_cases e : j = k
  · subst e; exact ⟨h1, h2⟩
  · exact h j (by omega)
set_option maxRecDepth 100000 in
theorem hDist_any (A : Option Addr) (n c : Nat) (l : List Int) (w : World) (h : Ints6 w A n l) (hn : n ≤ 1000000) (hc : n ≤ c) (hcm : c ≤ maxLen) :
    Calls Tryd.prog 24 #[.slice A n c] w fun e w' => e = .returned (.bool (decide (okP l))) ∧ w = w' := by
  have HA := Lib.hid h
  have HN := Lib.hid h.len
  have HP := Lib.hid (fun x w1 => isPage_any x w1)
  have HC := Lib.hid (fun k (hk : k ≤ n) x => containsI_any A k c (l.take k) x w (h.take hk) (by omega))
  clear h
  go_enter Tryd.func24, Tryd.ntmps24
  go_wp2
  go_loop [7] (fun i => ∃ k : Nat, k ≤ n ∧ i = .int .i64 k ∧ okTo l k) (fun i => n - (intOf i).toNat)
  case atStart => exact ⟨0, Nat.zero_le _, rfl, fun j hj => absurd hj (by omega)⟩
  case round =>
    obtain ⟨k, hk, rfl, hj⟩ := hrel
    have HJ := Lib.hid hj
    clear hj
    by_cases hlt : k < n
    · have hkl : k < l.length := by have := HN.out; omega
      obtain ⟨g, off, rfl, ck⟩ := HA.out.at_ (List.getElem?_eq_getElem hkl)
      have HD : Hid (l.getD k 0 = l[k]) := Lib.hid (by rw [List.getD_eq_getElem?_getD, List.getElem?_eq_getElem hkl]; rfl)
      have HKL := Lib.hid hkl
      generalize l[k] = y at ck HD
      have HCk := Lib.hid (HC.out k hk y)
      have HPy := Lib.hid (HP.out y)
      clear hkl
      cases hp : pgOk y
      · have HF : Hid (decide (okP l) = false) := Lib.hid (by
          apply decide_eq_false
          intro ho
          have := (ho k HKL.out).1
          rw [HD.out, hp] at this
          cases this)
        rw [hp] at HPy
        go_wp2_with (go_at_call 45; (with_reducible refine (HPy.out _).mono ?_); rintro e w1 ⟨rfl, rfl⟩)
        go_ret
        exact ⟨retb HF.out.symm, rfl⟩
      · rw [hp] at HPy
        by_cases hm : y ∈ l.take k
        · have HF : Hid (decide (okP l) = false) := Lib.hid (by
            apply decide_eq_false
            intro ho
            have := (ho k HKL.out).2
            rw [HD.out] at this
            exact this hm)
          have hd : decide (y ∈ l.take k) = true := decide_eq_true hm
          rw [hd] at HCk
          clear hm hd
          go_wp2_with (first
            | (go_at_call 45; (with_reducible refine (HPy.out _).mono ?_); rintro e w1 ⟨rfl, rfl⟩)
            | (go_at_call 46; (with_reducible refine HCk.out.mono ?_); rintro e w1 ⟨rfl, rfl⟩))
          go_ret
          exact ⟨retb HF.out.symm, rfl⟩
        · have HF : Hid (okTo l (k + 1)) := Lib.hid (okTo_snoc HJ.out (by rw [HD.out]; exact hp) (by rw [HD.out]; exact hm))
          have hd : decide (y ∈ l.take k) = false := decide_eq_false hm
          rw [hd] at HCk
          clear hm hd
          go_wp2_with (first
            | (go_at_call 45; (with_reducible refine (HPy.out _).mono ?_); rintro e w1 ⟨rfl, rfl⟩)
            | (go_at_call 46; (with_reducible refine HCk.out.mono ?_); rintro e w1 ⟨rfl, rfl⟩))
          go_round
          case rel => exact ⟨k + 1, by omega, by go_num, HF.out⟩
          case measure => simp [intOf]; omega
    · obtain rfl : k = n := by omega
      have HF : Hid (decide (okP l) = true) := Lib.hid (decide_eq_true (fun j hj => HJ.out j (by rw [HN.out]; exact hj)))
      go_wp2
      go_ret
      exact ⟨retb HF.out.symm, rfl⟩

end Go.Proofs.YtdoabcbembinjaaDoor
end

section
namespace Go.Proofs.YtdoabcbembinjaaDoor
open Go.RowKit
set_option linter.unusedVariables false

def newB (ls : List Int) : Bool := decide (1 ≤ ls.length) && decide (ls.length ≤ 64) && ls.all szB
theorem area_info : (Tryd.prog.info? 78).map (fun i => (i.zero, i.size, i.bytes)) = some (some (.agg #[.int .i64 0, .map none, .slice none 0 0, .map none, .int .i64 0, .bool false]), 6, 64) := by kernel_rfl
theorem make_areas (n : Nat) (hn : n ≤ 1000) (w : World) : (Instr.makeSlice 71 (.int .i64 n) (.int .i64 n)).run Tryd.prog w = .ok (.slice (some ⟨w.heap.size, 0, none⟩) n n) (w.alloc (.cells (madeCells #[.int .i64 0, .map none, .slice none 0 0, .map none, .int .i64 0, .bool false] (n * 6)) 78)) := by
  obtain ⟨i0, hi, hz0, hz1, hz2⟩ := info_parts area_info
  have := run_make (P := Tryd.prog) (w := w) 71 78 i0 _ Tryd.underlying71 hi hz0 .i64 .i64 n n (by omega) (by omega) (by rw [hz2]; omega) (by omega)
  simp only [Int.toNat_natCast, hz1] at this
  exact this
section
variable {T : Tg} {d : Nat} {w : World}
def NewEnd (T : Tg) (d : Nat) (rs : List Rg) (w : World) (e : Ending) (w' : World) : Prop :=
  ∃ D A T', e = .returned (.tuple #[.pointer (some ⟨D, 0, none⟩), .int .i64 0]) ∧ Dk w' T' d D A rs ∧ Tn T d w T' w' ∧ Below w.heap.size w w'
set_option maxRecDepth 100000 in
set_option maxHeartbeats 4000000 in
theorem New_ok (A : Option Addr) (n c : Nat) (ls : List Int) (h : Ints6 w A n ls) (hlo : ∀ x t, T x = some t → x < w.heap.size) (hb : newB ls = true) :
    Calls Tryd.prog 14 #[.slice A n c] w (NewEnd T d (ls.map fun x => fresh6 x.toNat) w) := by
  have hb' : (1 ≤ ls.length ∧ ls.length ≤ 64) ∧ ls.all szB = true := by simpa [newB] using hb
  obtain ⟨⟨n1, n2⟩, hall⟩ := hb'
  have hnl := h.len
  rw [← hnl] at n1 n2
  have HS := Lib.hid (areSizes_any A n c ls w h (by omega))
  rw [hall] at HS
  have HA := Lib.hid h
  have HN := Lib.hid hnl
  have HALL := Lib.hid hall
  have hmk := make_areas n (by omega)
  obtain ⟨z, hz⟩ : ∃ z, madeCells #[Value.int .i64 0, .map none, .slice none 0 0, .map none, .int .i64 0, .bool false] (n * 6) = z := ⟨_, rfl⟩
  have hzs : z.size = n * 6 := by rw [← hz, size_madeCells]
  rw [hz] at hmk
  have ST := Lib.hid (NewRel.start (T := T) (d := d) (n := n) (ls := ls) hlo z hzs (w.heap.size + 1) rfl)
  have hmm := @run_makeMap Tryd.prog
  clear h hlo hb hall hnl hz
  go_enter Tryd.func14, Tryd.ntmps14
  go_wp2_with (go_at_call 32; (with_reducible refine HS.out.mono ?_); rintro e w2 ⟨rfl, rfl⟩)
  go_loopw [27] (fun i wr => ∃ k : Nat, k ≤ n ∧ i = .int .i64 (k : Int) ∧ ∃ T', NewRel T d w w.heap.size (w.heap.size + 1) n ls k T' wr) (fun i _ => n - (intOf i).toNat)
  case atStart => exact ⟨0, Nat.zero_le _, rfl, _, ST.out⟩
  case round =>
    obtain ⟨k, hk, rfl, T', hr⟩ := hrel
    have HR := Lib.hid hr
    have cD := hr.hd.cell0
    clear hr
    by_cases hlt : k < n
    · have hkl : k < ls.length := by rw [← HN.out]; exact hlt
      obtain ⟨x, hx⟩ : ∃ x, ls[k]? = some x := ⟨_, List.getElem?_eq_getElem hkl⟩
      obtain ⟨g, off, hA, hc⟩ := HA.out.at_ hx
      subst hA
      have hc2 := cellB hc HR.out.bel
      have hsx : szB x = true := by
        have := HALL.out
        rw [List.all_eq_true] at this
        exact this x (List.mem_of_getElem? hx)
      have NXT := Lib.hid (HR.out.step hlt hx hsx)
      have i0 : (0 : Int) ≤ (k : Int) := by omega
      have i1 : (k : Int) < (n : Int) := by omega
      have hst : (Instr.storeAt 78 (.pointer (some ⟨w.heap.size, k * 6, none⟩)) (.agg (newCells wr.heap.size (wr.heap.size + 1) x).toArray)).run Tryd.prog ((wr.alloc (.map #[] 0)).alloc (.map #[] 0)) = .ok () (((wr.alloc (.map #[] 0)).alloc (.map #[] 0)).setCells w.heap.size (k * 6) (newCells wr.heap.size (wr.heap.size + 1) x)) :=
        run_storeAt_mid _ w.heap.size (k * 6) 78 _ (HR.out.there hlt (((Below.refl _ wr).alloc (Nat.le_refl _) _).alloc (by simp) _)) (by kernel_rfl) (by simp [newCells, Value.oneCell'])
      clear hc hx hsx hkl
      have cD2 : ((wr.alloc (.map #[] 0)).alloc (.map #[] 0)).cell? ⟨w.heap.size + 1, 0, none⟩ = some (.slice (some ⟨w.heap.size, 0, none⟩) n n) := cellB cD (((Below.refl _ wr).alloc (Nat.le_refl _) _).alloc (by simp) _)
      unfold newCells at hst
      generalize hw3 : ((wr.alloc (.map #[] 0)).alloc (.map #[] 0)).setCells w.heap.size (k * 6) _ = w3 at hst
      have HW3 := Lib.hid hw3
      clear hw3
      go_wp2_with (refine wpL_store rfl 78 (.tmp 41) (.tmp 40) rfl _ _ rfl rfl _ hst ?_)
      go_roundw
      case rel => exact ⟨k + 1, by omega, by go_num, _, by rw [← HW3.out]; exact NXT.out⟩
      case measure => simp [intOf]; omega
    · obtain rfl : k = n := by omega
      obtain ⟨w3, hw3⟩ : ∃ w3 : World, w3 = wr := ⟨_, rfl⟩
      subst hw3
      go_wp2
      go_ret2
      exact ⟨_, _, T', rfl, HR.out.dk HN.out, HR.out.tn, HR.out.bel⟩
end

end Go.Proofs.YtdoabcbembinjaaDoor
end

section
namespace Go.Proofs.YtdoabcbembinjaaDoor
open Go.RowKit
set_option linter.unusedVariables false

structure St where
  kind : Int
  region : Int
  page : Int
  fill : UInt8
  short : Bool
  keep : List (List UInt8)
def pgLen (s : St) : Nat := if s.short then 127 else 128
def pgB (s : St) : List UInt8 := List.replicate (pgLen s) s.fill
def stV (s : St) (kv : Value) : Value := .agg #[.int .i64 s.kind, .int .i64 s.region, .int .i64 s.page, byteV s.fill, .bool s.short, kv]
def PgEnd (l : List UInt8) (w : World) (e : Ending) (w' : World) : Prop := ∃ g, e = .returned (.slice (some ⟨g, 0, none⟩) l.length l.length) ∧ w.heap.size ≤ g ∧ Has w' g 5 (l.map byteV).toArray ∧ Below w.heap.size w w'
theorem make_bytes6 (n : Nat) (hn : n ≤ 1000000) (w : World) : (Instr.makeSlice 31 (.int .i64 n) (.int .i64 n)).run Tryd.prog w = .ok (.slice (some ⟨w.heap.size, 0, none⟩) n n) (w.alloc (.cells (madeCells #[.int .u8 0] n) 5)) := by
  obtain ⟨i0, hi, hz0, hz1, hz2⟩ := info_parts u8info
  have := run_make (P := Tryd.prog) (w := w) 31 5 i0 (.int .u8 0) Tryd.underlying31 hi hz0 .i64 .i64 n n (by omega) (by omega) (by rw [hz2]; omega) (by omega)
  simp only [Int.toNat_natCast, hz1, Nat.mul_one] at this
  exact this
def halfD (n k : Nat) (f : UInt8) : List UInt8 := List.replicate k f ++ List.replicate (n - k) 0
theorem halfD_zero (n : Nat) (f : UInt8) : ((halfD n 0 f).map byteV).toArray = madeCells #[.int .u8 0] n := by
  apply Array.ext'
  rw [toList_madeCells_one]
  simp [halfD, byteV]
end Go.Proofs.YtdoabcbembinjaaDoor
end

section
namespace Go.Proofs.YtdoabcbembinjaaDoor
open Go.RowKit
set_option linter.unusedVariables false

structure Dz (w0 w : World) (T : Tg) (d D A N : Nat) (rs : List Rg) : Prop where
  dk : Dk w T d D A rs
  lo : Lo w0.heap.size T w
  bel : Below w0.heap.size w0 w
  few : ∀ r ∈ rs, r.loose.length ≤ N
structure Bk (w : World) (T : Tg) (g : Nat) (t : TypeId) (cs : Array Value) : Prop where
  has : Has w g t cs
  un : T g = none
theorem Bk.tn {w w' : World} {T T' : Tg} {d g : Nat} {t : TypeId} {cs : Array Value} (h : Bk w T g t cs) (k : Tn T d w T' w') : Bk w' T' g t cs :=
  ⟨(k.block g h.has.lt (fun j hj => by rw [h.un] at hj; cases hj)).trans h.has, (k.old g h.has.lt).trans h.un⟩
theorem Bk.below {w w' : World} {T : Tg} {g : Nat} {t : TypeId} {cs : Array Value} (h : Bk w T g t cs) (hb : Below w.heap.size w w') : Bk w' T g t cs := ⟨h.has.below hb h.has.lt, h.un⟩
theorem Lo.un {W0 : Nat} {T : Tg} {w : World} (h : Lo W0 T w) {g : Nat} (hg : w.heap.size ≤ g) : T g = none := by
  cases e : T g with
  | none => rfl
  | some t => have := (h g t e).2; omega
theorem few_set {rs : List Rg} {N i : Nat} {r' : Rg} (h : ∀ r ∈ rs, r.loose.length ≤ N) (h' : r'.loose.length ≤ N) : ∀ r ∈ rs.set i r', r.loose.length ≤ N := fun r hr => by
  rcases List.mem_or_eq_of_mem_set hr with hr | rfl
  · exact h r hr
  · exact h'
theorem few_wrA {rs : List Rg} {N : Nat} (h : ∀ r ∈ rs, r.loose.length ≤ N) (x p : Int) (l : List UInt8) : ∀ r ∈ (wrA rs x p l).1, r.loose.length ≤ N + 1 := by
  have h1 : ∀ r ∈ rs, r.loose.length ≤ N + 1 := fun r hr => Nat.le_succ_of_le (h r hr)
  unfold wrA
  split
  · exact h1
  · rename_i r hr
    have hm := h r (List.mem_of_getElem? (regN_some hr).2.2)
    split
    · exact h1
    · split
      · split
        · split
          · exact few_set h1 (by rw [cntR_loose]; omega)
          · exact few_set h1 (by simp only [wrR, List.length_append, cntR_loose, List.length_cons, List.length_nil]; omega)
        · exact h1
      · exact h1
theorem set_len_wrA (rs : List Rg) (x p : Int) (l : List UInt8) : (wrA rs x p l).1.length = rs.length := by
  unfold wrA
  repeat' split
  all_goals simp
section
variable {w0 w : World} {T : Tg} {d D A N : Nat} {rs : List Rg}
theorem Dz.below {w' : World} (h : Dz w0 w T d D A N rs) (hb : Below w.heap.size w w') : Dz w0 w' T d D A N rs := ⟨h.dk.below hb, h.lo.below hb.size, below_step h.bel hb, h.few⟩
theorem Dz.more (h : Dz w0 w T d D A N rs) {M : Nat} (hm : N ≤ M) : Dz w0 w T d D A M rs := ⟨h.dk, h.lo, h.bel, fun r hr => Nat.le_trans (h.few r hr) hm⟩
theorem Dz.other {w' : World} {T' : Tg} {d2 : Nat} (h : Dz w0 w T d D A N rs) (k : Tn T d2 w T' w') (hd : d ≠ d2) : Dz w0 w' T' d D A N rs :=
  ⟨h.dk.other k hd, k.lo h.lo h.bel.size, h.bel.trans (k.low h.lo h.bel.size), h.few⟩
theorem Dz.next {w' : World} {T' : Tg} {M : Nat} {rs' : List Rg} (h : Dz w0 w T d D A N rs) (k : Tn T d w T' w') (hd : Dk w' T' d D A rs') (hf : ∀ r ∈ rs', r.loose.length ≤ M) : Dz w0 w' T' d D A M rs' :=
  ⟨hd, k.lo h.lo h.bel.size, h.bel.trans (k.low h.lo h.bel.size), hf⟩
def DzEnd (res : Value) (w0 w : World) (T : Tg) (d D A N : Nat) (rs : List Rg) (e : Ending) (w' : World) : Prop := e = .returned res ∧ ∃ T', Dz w0 w' T' d D A N rs ∧ Tn T d w T' w'
theorem New_z {A0 : Option Addr} {n c : Nat} {ls : List Int} (d : Nat) (h : Ints6 w A0 n ls) (hlo : Lo w0.heap.size T w) (hb : Below w0.heap.size w0 w) (hn : newB ls = true) :
    Calls Tryd.prog 14 #[.slice A0 n c] w fun e w' => ∃ D A T', e = .returned (.tuple #[.pointer (some ⟨D, 0, none⟩), .int .i64 0]) ∧ Dz w0 w' T' d D A 0 (ls.map fun x => fresh6 x.toNat) ∧ Tn T d w T' w' ∧ Below w.heap.size w w' :=
  (New_ok (T := T) (d := d) A0 n c ls h hlo.lt hn).mono fun e w' ⟨D, A, T', he, hd, ht, hbb⟩ => ⟨D, A, T', he, ⟨hd, ht.lo hlo hb.size, below_step hb hbb, fun r hr => by
    obtain ⟨x, _, rfl⟩ := List.mem_map.1 hr
    simp [fresh6]⟩, ht, hbb⟩
end
def noT : Tg := fun _ => none
theorem lo_none (W0 : Nat) (w : World) : Lo W0 noT w := fun x t h => by cases h
theorem ints_lit (w : World) (l : List Int) (o : Obj) (ho : o = .cells (l.map (Value.int .i64)).toArray 3) : Ints6 (w.alloc o) (some ⟨w.heap.size, 0, none⟩) l.length l := by
  subst ho
  refine ⟨rfl, fun hx => ⟨w.heap.size, 0, rfl, fun j u hj => ?_⟩⟩
  have := (Has.made w 3 (l.map (Value.int .i64)).toArray).cell (0 + j)
  exact this.trans (by simpa using hj)

end Go.Proofs.YtdoabcbembinjaaDoor
end

section
namespace Go.Proofs.YtdoabcbembinjaaDoor
open Go.RowKit
set_option linter.unusedVariables false

def sA : St := ⟨0, 0, 0, 7, false, []⟩
def sB : St := ⟨0, 0, 0, 8, false, []⟩
def q0 : List Rg := [4, 5].map fun x : Int => fresh6 x.toNat
def q1 : List Rg := (wrA q0 1 4 (pgB sA)).1
def q2 : List Rg := crA [] q1
def q3 : List Rg := (wrA q2 1 4 (pgB sB)).1
def q4 : List Rg := (syA q3 1).1
def q5 : List Rg := crA [] q4
structure Aw (q0 q1 q2 q3 q4 q5 : List Rg) (lA lB lZ : List UInt8) : Prop where
  m0 : ([4, 5].map fun x : Int => fresh6 x.toNat) = q0
  w1 : (wrA q0 1 4 lA).1 = q1
  v1 : (wrA q0 1 4 lA).2 = 0
  r1 : rdL q1 1 4 = lA
  e1 : rdE q1 1 4 = 0
  l1 : looL q1 1 = [4]
  n1 : q1.length ≤ 1000
  c2 : crA [] q1 = q2
  r2 : rdL q2 1 4 = lZ
  e2 : rdE q2 1 4 = 0
  w3 : (wrA q2 1 4 lB).1 = q3
  v3 : (wrA q2 1 4 lB).2 = 0
  w4 : (syA q3 1).1 = q4
  v4 : (syA q3 1).2 = 0
  n4 : q4.length ≤ 1000
  c5 : crA [] q4 = q5
  r5 : rdL q5 1 4 = lB
  e5 : rdE q5 1 4 = 0
  k0 : lenN q5 0 = 4
  k2 : lenN q5 2 = 0
  pA : pgB sA = lA
  pB : pgB sB = lB
  fA : lA = 7 :: List.replicate 127 7
  fB : lB = 8 :: List.replicate 127 8
  fZ : lZ = 0 :: List.replicate 127 0
theorem Bk.first {w : World} {T : Tg} {g : Nat} {t : TypeId} {f : UInt8} {l : List UInt8} (h : Bk w T g t ((f :: l).map byteV).toArray) : w.cell? ⟨g, 0, none⟩ = some (.int .u8 (f.toNat : Int)) := by
  rw [h.has.cell]
  simp [byteV]

end Go.Proofs.YtdoabcbembinjaaDoor
end

section
namespace Go.Proofs.YtdoabcbembinjaaDoor
open Go.RowKit
set_option linter.unusedVariables false

structure Sx where
  s : St
  ka : Option Addr
  kn : Nat
  kc : Nat
def Sx.kv (x : Sx) : Value := .slice x.ka x.kn x.kc
structure StepsA (w : World) (A : Option Addr) (n : Nat) (l : List Sx) : Prop where
  len : n = l.length
  cells : 0 < n → ∃ b off, A = some ⟨b, off, none⟩ ∧ b < w.heap.size ∧ ∀ i x, l[i]? = some x →
    w.cell? ⟨b, off + i * 6, none⟩ = some (.int .i64 x.s.kind) ∧ w.cell? ⟨b, off + i * 6 + 1, none⟩ = some (.int .i64 x.s.region) ∧ w.cell? ⟨b, off + i * 6 + 2, none⟩ = some (.int .i64 x.s.page) ∧
    w.cell? ⟨b, off + i * 6 + 3, none⟩ = some (.int .u8 (x.s.fill.toNat : Int)) ∧ w.cell? ⟨b, off + i * 6 + 4, none⟩ = some (.bool x.s.short) ∧ w.cell? ⟨b, off + i * 6 + 5, none⟩ = some (.slice x.ka x.kn x.kc)
  keep : ∀ x ∈ l, x.kn ≤ x.kc ∧ x.kc ≤ maxLen ∧ x.s.page ≤ 9223372036854775807 ∧ x.kn = x.s.keep.length ∧ Reads w x.ka (x.s.keep.map txtV) ∧ (∀ s ∈ x.s.keep, s.length ≤ 9223372036854775807) ∧ (0 < x.kn → ∀ a, x.ka = some a → a.block < w.heap.size)
theorem StepsA.below {w w' : World} {A : Option Addr} {n : Nat} {l : List Sx} (h : StepsA w A n l) (hb : Below w.heap.size w w') : StepsA w' A n l :=
  ⟨h.len, fun hn => by
    obtain ⟨b, off, hA, hlt, hc⟩ := h.cells hn
    refine ⟨b, off, hA, Nat.lt_of_lt_of_le hlt hb.size, fun i x hi => ?_⟩
    obtain ⟨c0, c1, c2, c3, c4, c5⟩ := hc i x hi
    have q := fun j => hb.cell (p := ⟨b, j, none⟩) hlt
    exact ⟨(q _).trans c0, (q _).trans c1, (q _).trans c2, (q _).trans c3, (q _).trans c4, (q _).trans c5⟩, fun x hx => by
    obtain ⟨h1, h2, h3, h4, h5, h6, h7⟩ := h.keep x hx
    exact ⟨h1, h2, h3, h4, h5.below hb (fun hp a ha => h7 (by rw [h4]; simpa using hp) a ha), h6, fun hp a ha => Nat.lt_of_lt_of_le (h7 hp a ha) hb.size⟩⟩
theorem StepsA.at_ {w w' : World} {A : Option Addr} {n : Nat} {l : List Sx} (h : StepsA w A n l) (hb : Below w.heap.size w w') {k : Nat} (hk : k < n) :
    ∃ x b off, l[k]? = some x ∧ A = some ⟨b, off, none⟩ ∧ b < w.heap.size ∧ w'.cell? ⟨b, off + k * 6, none⟩ = some (.int .i64 x.s.kind) ∧ w'.cell? ⟨b, off + k * 6 + 1, none⟩ = some (.int .i64 x.s.region) ∧ w'.cell? ⟨b, off + k * 6 + 2, none⟩ = some (.int .i64 x.s.page) ∧
    w'.cell? ⟨b, off + k * 6 + 3, none⟩ = some (.int .u8 (x.s.fill.toNat : Int)) ∧ w'.cell? ⟨b, off + k * 6 + 4, none⟩ = some (.bool x.s.short) ∧ w'.cell? ⟨b, off + k * 6 + 5, none⟩ = some (.slice x.ka x.kn x.kc) := by
  obtain ⟨x, hx⟩ : ∃ q, l[k]? = some q := ⟨_, List.getElem?_eq_getElem (by have := h.len; omega)⟩
  obtain ⟨b, off, hA, hlt, hc⟩ := h.cells (by omega)
  obtain ⟨c0, c1, c2, c3, c4, c5⟩ := hc k x hx
  have q := fun j => hb.cell (p := ⟨b, j, none⟩) hlt
  exact ⟨x, b, off, hx, hA, hlt, (q _).trans c0, (q _).trans c1, (q _).trans c2, (q _).trans c3, (q _).trans c4, (q _).trans c5⟩
def smB (l : List Sx) : Bool := l.all (fun x => decide (x.s.keep.length ≤ 8)) && decide (l.length ≤ 40)
/-! ### More of disks -/
theorem str_reads {w : World} {n c : Nat} {A : Option Addr} {l : List UInt8} (hn : n = l.length) (h : Reads w A (l.map byteV)) : (convert 31 9 (.slice A n c)).run Tryd.prog w = .ok (.string ⟨l.toArray⟩) w :=
  run_string_of w 31 9 5 Tryd.underlying31 Tryd.underlying5 Tryd.underlying9 hn h
section
variable {w0 w w' : World} {T : Tg} {d D A N : Nat} {rs : List Rg}
theorem Dk.marked (h : Dk w T d D A rs) (hk : ∀ x t, T x = some t → w'.heap[x]? = w.heap[x]?) : Dk w' T d D A rs := by
  obtain ⟨cs, hA, hs⟩ := h.blk
  refine ⟨(hk D _ h.td).trans h.hd, h.td, h.ta, ⟨cs, (hk A _ h.ta).trans hA, hs⟩, fun i r hr => ?_⟩
  obtain ⟨m1, m2, v, ha⟩ := h.at_ i r hr
  exact ⟨m1, m2, v, ha.keep (fun j _ => cell_heap (hk A _ h.ta)) (fun x j _ hT hlt => ⟨hk x _ hT, rfl⟩) rfl⟩
theorem Dz.away (h : Dz w0 w T d D A N rs) {p : Addr} (hp : T p.block = none) (hp0 : w0.heap.size ≤ p.block) (u : Value) : Dz w0 (w.setCell p u) T d D A N rs :=
  ⟨h.dk.marked (fun x t hx => setCell_heap_other w p u x (fun e => by rw [e, hp] at hx; cases hx)), fun x t hx => by rw [setCell_hsize]; exact h.lo x t hx, h.bel.setCell hp0 u, h.few⟩
end
theorem Bk.reads {w : World} {T : Tg} {g : Nat} {t : TypeId} {l : List UInt8} (h : Bk w T g t (l.map byteV).toArray) : Reads w (some ⟨g, 0, none⟩) (l.map byteV) := fun _ => ⟨g, 0, rfl, fun j u hj => by rw [h.has.cell, Nat.zero_add]; simpa using hj⟩

end Go.Proofs.YtdoabcbembinjaaDoor
end

section
namespace Go.Proofs.YtdoabcbembinjaaDoor
open Go.RowKit
set_option linter.unusedVariables false

def mayB (s : St) : Bool := decide (s.region = 0) && (decide (0 ≤ s.page) && decide (s.page < 4)) && !s.short
structure Rf (r : Rg) (n a : Nat) : Prop where
  size : r.size = 4
  down : r.down = decide (a < n)
  left : n ≤ a → r.left = (a : Int) - n
  loose : r.loose.length = min n a
structure Sbox (w : World) (g : Nat) (x : Sx) : Prop where
  c0 : w.cell? ⟨g, 0, none⟩ = some (.int .i64 x.s.kind)
  c1 : w.cell? ⟨g, 1, none⟩ = some (.int .i64 x.s.region)
  c2 : w.cell? ⟨g, 2, none⟩ = some (.int .i64 x.s.page)
  c3 : w.cell? ⟨g, 3, none⟩ = some (.int .u8 (x.s.fill.toNat : Int))
  c4 : w.cell? ⟨g, 4, none⟩ = some (.bool x.s.short)
  c5 : w.cell? ⟨g, 5, none⟩ = some (.slice x.ka x.kn x.kc)
def Sx.cells (x : Sx) : Array Value := #[.int .i64 x.s.kind, .int .i64 x.s.region, .int .i64 x.s.page, .int .u8 (x.s.fill.toNat : Int), .bool x.s.short, .slice x.ka x.kn x.kc]
theorem Sbox.of {w : World} {g : Nat} {x : Sx} {t : TypeId} (h : Has w g t x.cells) : Sbox w g x :=
  ⟨h.cell 0, h.cell 1, h.cell 2, h.cell 3, h.cell 4, h.cell 5⟩
theorem Dz.drew {w0 w : World} {T : Tg} {d D A N : Nat} {rs : List Rg} (h : Dz w0 w T d D A N rs) : Dz w0 w.drew T d D A N rs := h.below ⟨rfl, rfl, rfl, Nat.le_refl _, fun _ _ => rfl⟩

end Go.Proofs.YtdoabcbembinjaaDoor
end

section
namespace Go.Proofs.YtdoabcbembinjaaDoor
open Go.RowKit
set_option linter.unusedVariables false

structure Sy (rs : List Rg) : Prop where
  len : rs.length = 2
  each : ∀ r ∈ rs, r.size = 4 ∧ r.down = false ∧ r.left = -1
theorem cntR_never {r : Rg} (h : r.left = -1) : cntR r = r := by
  unfold cntR
  rw [if_neg (by omega), if_neg (by omega)]
theorem Sy.wr {rs : List Rg} (h : Sy rs) (x p : Int) (l : List UInt8) : Sy (wrA rs x p l).1 := by
  refine ⟨by rw [set_len_wrA]; exact h.len, ?_⟩
  unfold wrA
  split
  · exact h.each
  · rename_i r hr
    obtain ⟨e1, e2, e3⟩ := h.each r (List.mem_of_getElem? (regN_some hr).2.2)
    rw [cntR_never e3]
    split
    · exact h.each
    · split
      · split
        · intro q hq
          rcases List.mem_or_eq_of_mem_set hq with hq | rfl
          · exact h.each q hq
          · exact ⟨e1, e2, e3⟩
        · exact h.each
      · exact h.each
def ff6 : List UInt8 := [255, 255, 255, 255, 255, 255]
end Go.Proofs.YtdoabcbembinjaaDoor
end

section
namespace Go.Proofs.YtdoabcbembinjaaDoor
open Go.RowKit
set_option linter.unusedVariables false

theorem Reads.zint {w : World} {A : Option Addr} {l : List Int} (h : Reads w A (l.map (Value.int .i64))) {i : Nat} (hi : i < l.length) :
    ∃ g off, A = some ⟨g, off, none⟩ ∧ w.cell? ⟨g, off + i, none⟩ = some (.int .i64 l[i]) := by
  obtain ⟨g, off, hA, hc⟩ := h (by simpa using Nat.lt_of_le_of_lt (Nat.zero_le _) hi)
  exact ⟨g, off, hA, hc _ _ (by simp [hi])⟩
set_option maxHeartbeats 1000000 in
theorem r3Ints_z (l : List Int) (A B : Option Addr) (n c c' : Nat) (w : World) (hn : n = l.length) (ha : Reads w A (l.map (Value.int .i64))) (hb : Reads w B (l.map (Value.int .i64))) (hl : n ≤ 1000000) :
    Calls Tryd.prog 20 #[.slice A n c, .slice B n c'] w fun e w' => e = .returned (.bool true) ∧ Below w.heap.size w w' := by
  have HN := Lib.hid hn
  have HA := Lib.hid ha
  have HB := Lib.hid hb
  clear hn ha hb
  go_enter Tryd.func20, Tryd.ntmps20
  go_wp2
  go_loopw [5] (fun i wr => ∃ k : Nat, k ≤ n ∧ i = .int .i64 k ∧ Below w.heap.size w wr) (fun i _ => n - (intOf i).toNat)
  case atStart => exact ⟨0, Nat.zero_le _, rfl, Below.refl _ _⟩
  case round =>
    obtain ⟨k, hk, rfl, hB⟩ := hrel
    have BW := Lib.hid hB
    clear hB
    by_cases hlt : k < n
    · have hkl : k < l.length := by have := HN.out; omega
      obtain ⟨g1, o1, rfl, c1⟩ := (HA.out.keep_ BW.out).zint hkl
      obtain ⟨g2, o2, rfl, c2⟩ := (HB.out.keep_ BW.out).zint hkl
      generalize l[k] = x at c1 c2
      have i0 : (0 : Int) ≤ (k : Int) := by omega
      have i1 : (k : Int) < (n : Int) := by omega
      clear hkl
      go_wp2
      go_region
      all_goals
        go_wp2
        go_roundw
        case rel => exact ⟨k + 1, by omega, by go_num, BW.out.drew⟩
        case measure => simp [intOf]; omega
    · obtain rfl : k = n := by omega
      obtain ⟨w3, hw3⟩ : ∃ w3 : World, w3 = wr := ⟨_, rfl⟩
      subst hw3
      go_wp2
      go_ret
      exact ⟨rfl, BW.out⟩

end Go.Proofs.YtdoabcbembinjaaDoor
end

section
namespace Go.Proofs.YtdoabcbembinjaaDoor
open Go.RowKit
set_option linter.unusedVariables false

def pgs (b : UInt8) : List UInt8 := List.replicate 128 b
def wsF : Nat → List UInt8 → List Wr
  | _, [] => []
  | o, b :: l => ((o : Int), pgs b) :: wsF (o + 1) l
def R30 (f : Int → Option (List UInt8)) (lo : List Wr) : Rg := ⟨30, f, lo, -1, false⟩
def wasB (fl : List UInt8) (k : Nat) : UInt8 := fl.getD k 0
def nowB (fl mo : List UInt8) (k : Nat) : UInt8 := if k < mo.length then mo.getD k 0 else wasB fl k
def gotB (fl mo ks : List UInt8) (k : Nat) : UInt8 := if bitS ks k then nowB fl mo k else wasB fl k
def ff4 : List UInt8 := [255, 255, 255, 255]
end Go.Proofs.YtdoabcbembinjaaDoor
end

section
namespace Go.Proofs.YtdoabcbembinjaaDoor
open Go.RowKit
set_option linter.unusedVariables false

def othA (rs : List Rg) (s : St) : List Rg :=
  if s.kind = 0 then (wrA rs s.region s.page (pgB s)).1 else if s.kind = 1 then (syA rs s.region).1 else if s.kind = 2 then stA rs s.region s.page else rs
def kpN (ks : List (List UInt8)) (k : Nat) : List (List UInt8) := ks.mapIdx fun r s => if r = k then s else [255, 255]
section
variable {w0 w : World} {T : Tg} {d D A N : Nat} {rs : List Rg}
end

end Go.Proofs.YtdoabcbembinjaaDoor
end
