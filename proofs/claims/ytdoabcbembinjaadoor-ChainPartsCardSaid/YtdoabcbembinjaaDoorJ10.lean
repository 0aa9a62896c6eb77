import Derived.Test.YtdoabcbembinjaaDoorJ09
import Derived.RangeFuncNested
import Derived.RangeFuncBound
import Derived.RangeFuncCalls
import Derived.RangeFuncLeaves
import Derived.RangeFuncBox
import Derived.OwnWalkIn
import Derived.TacticsInMore
import Derived.LoopNIn
import Derived.LoopIn
import Derived.Lib.ConvBytes
/- Of a claim's texts, joined: Chc Chq. No statement but in the last. -/
section
namespace Go.Proofs.YtdoabcbembinjaaDoor
open Go.RowKit
set_option linter.unusedVariables false
attribute [local go_sem] Oper.semAt_some

theorem chunk_any (A : Option Addr) (n c : Nat) (w : World) : Calls Tryd.prog 26 #[.slice A n c, .int .i64 119] w fun e w' => e = .returned (.func (.func 48) #[] #[.pointer (some ⟨w.heap.size, 0, none⟩), .pointer (some ⟨w.heap.size + 1, 0, none⟩)]) ∧ (w.alloc (.cells #[.slice A n c] 31)).alloc (.cells #[.int .i64 119] 3) = w' := by
  go_enter Tryd.func26, Tryd.ntmps26
  go_wp2
  go_ret
  exact ⟨rfl, rfl⟩
def encC (B L : Nat) (k : Nat) : Array Value := #[.slice (some ⟨B, 119 * k, none⟩) (partZ L k) (partZ L k)]
def KpC (Bs Bn : Nat) (W W' : World) : Prop := W'.heap[Bs]? = W.heap[Bs]? ∧ W'.heap[Bn]? = W.heap[Bn]?
theorem range_more (k : Nat) (pre : List Nat) (h : pre = List.range k) : pre ++ [k] = List.range (k + 1) := by rw [h, List.range_succ]
set_option maxRecDepth 100000 in
set_option maxHeartbeats 2000000 in
theorem chunk1_in (n : Nat) (hn : 1 ≤ n) (l Bs Bn B L c : Nat) (hL0 : 0 < L) (hL : L ≤ 600) (hc : L ≤ c) (hcm : c ≤ maxLen) (J Jx : List Nat → World → Prop) (hJd : ∀ pre W, J pre W → J pre W.drew)
    (hY : ∀ (pre : List Nat) (k : Nat) (W : World), J pre W → pre.length < (L + 118) / 119 → YieldAt Fence.wide (n - 1) Tryd.prog l (encC B L k) W fun e W' =>
      (e = .returned (.bool true) ∧ J (pre ++ [k]) W' ∧ KpC Bs Bn W W') ∨ (e = .returned (.bool false) ∧ Jx (pre ++ [k]) W'))
    (W : World) (hBs : W.cell? ⟨Bs, 0, none⟩ = some (.slice (some ⟨B, 0, none⟩) L c)) (hBn : W.cell? ⟨Bn, 0, none⟩ = some (.int .i64 119)) (h0 : J [] W) :
    CallsIn Fence.wide n Tryd.prog 48 #[.func (.yield l) #[] #[], .pointer (some ⟨Bs, 0, none⟩), .pointer (some ⟨Bn, 0, none⟩)] W fun e W' => (∃ v, e = .returned v) ∧
      ((∃ ys, ys = List.range ((L + 118) / 119) ∧ J ys W') ∨ (∃ pre, pre <+: List.range ((L + 118) / 119) ∧ Jx pre W')) := by
  refine callsIn_of_wp Tryd.func48 rfl trivial ?_ rfl
  simp only [Tryd.ntmps48, List.size_toArray, List.length_cons, List.length_nil, Nat.reduceAdd, Nat.reduceSub, Array.replicate_succ, Array.replicate_zero, List.push_toArray, List.append_toArray, List.nil_append, List.cons_append]
  have hmx : Tryd.prog.follows .mixedOrders = true := by kernel_rfl
  gi_wp2
  gi_loopw [4] (fun v wr => ∃ (pre : List Nat) (k i : Nat), v = .int .i64 (i : Int) ∧ i = 119 * k ∧ k ≤ (L + 118) / 119 ∧ pre = List.range k ∧ J pre wr ∧ wr.cell? ⟨Bs, 0, none⟩ = some (.slice (some ⟨B, 0, none⟩) L c) ∧ wr.cell? ⟨Bn, 0, none⟩ = some (.int .i64 119)) (fun v _ => 1200 - (intOf v).toNat)
  case atStart => exact ⟨[], 0, 0, rfl, rfl, Nat.zero_le _, rfl, h0, hBs, hBn⟩
  case round =>
    obtain ⟨pre, k, i, rfl, hik, hk, hpre, hJ, cs, cn⟩ := hrel
    have HP := Lib.hid hpre
    by_cases hlt : i < L
    · have hlen : pre.length < (L + 118) / 119 := by rw [hpre, List.length_range]; omega
      have hSd : (fun w' : World => w'.cell? ⟨Bs, 0, none⟩ = some (.slice (some ⟨B, 0, none⟩) L c) ∧ w'.cell? ⟨Bn, 0, none⟩ = some (.int .i64 119)) wr.drew := ⟨cs, cn⟩
      have cs2 : wr.drew.cell? ⟨Bs, 0, none⟩ = some (.slice (some ⟨B, 0, none⟩) L c) := cs
      have cn2 : wr.drew.cell? ⟨Bn, 0, none⟩ = some (.int .i64 119) := cn
      have hJ2 := hJd _ _ hJ
      obtain ⟨fn, tmps, assign, body, hyy, hR⟩ := hY pre k wr.drew hJ2 hlen
      have hpz : ∃ pz, partZ L k = pz ∧ pz = min (L - i) 119 := ⟨_, rfl, by unfold partZ; rw [hik]⟩
      unfold encC at hyy
      rw [← hik] at hyy
      obtain ⟨pz, hpz, hpm⟩ := hpz
      rw [hpz] at hyy
      have hp1 : 1 ≤ pz := by omega
      have hp2 : pz ≤ 119 := by omega
      have hp3 : i + pz ≤ L := by omega
      have hlt' : (i : Int) < (L : Int) := by omega
      have HIK := Lib.hid hik
      have HR := Lib.hid hR
      have HPM := Lib.hid hpm
      have HK := Lib.hid hk
      clear hpz hpm hpre hlen hR hik hY hk
      gi_wp2
      refine wpIn_wide.2 ?_
      rename_i K hK
      refine wp_held (fun w' : World => w'.cell? ⟨Bs, 0, none⟩ = some (.slice (some ⟨B, 0, none⟩) L c) ∧ w'.cell? ⟨Bn, 0, none⟩ = some (.int .i64 119)) K hmx ?_ (fun _ _ h => h)
      refine wpAnyH_take (i := 0) (v := .int .i64 119) rfl (by kernel_rfl) (by kernel_rfl) (by kernel_rfl) (fun _ _ _ h => h) (Or.inl ⟨by rfl, ?_⟩) hSd ?_
      · rintro w6 ⟨k1, k2⟩
        go_simp
      simp only [Act.put, List.setIfInBounds_toArray, List.set_cons_zero, List.set_cons_succ, List.getElem_toArray, List.getElem_cons_zero]
      refine wpAnyH_take (i := 1) (v := .slice (some ⟨B, 0, none⟩) L c) rfl (by kernel_rfl) (by kernel_rfl) (by kernel_rfl) (fun _ _ _ h => h) (Or.inl ⟨by rfl, ?_⟩) hSd ?_
      · rintro w6 ⟨k1, k2⟩
        go_simp
      simp only [Act.put, List.setIfInBounds_toArray, List.set_cons_zero, List.set_cons_succ, List.getElem_toArray, List.getElem_cons_zero, List.getElem_cons_succ]
      refine wpAnyH_take (i := 2) (v := .int .i64 (i : Int)) rfl (by kernel_rfl) (by kernel_rfl) (by kernel_rfl) (fun _ _ _ h => h) (Or.inl ⟨by rfl, ?_⟩) hSd ?_
      · rintro w6 ⟨k1, k2⟩
        go_simp
      simp only [Act.put, List.setIfInBounds_toArray, List.set_cons_zero, List.set_cons_succ, List.getElem_toArray, List.getElem_cons_zero, List.getElem_cons_succ]
      refine wpAnyH_take (i := 3) (v := .slice (some ⟨B, i, none⟩) (L - i) (c - i)) rfl (by kernel_rfl) (by kernel_rfl) (by kernel_rfl) (fun _ _ _ h => h) (Or.inl ⟨by rfl, ?_⟩) hSd ?_
      · rintro w6 ⟨k1, k2⟩
        go_simp
        rw [if_pos (by omega), if_neg (by omega)]
      simp only [Act.put, List.setIfInBounds_toArray, List.set_cons_zero, List.set_cons_succ, List.getElem_toArray, List.getElem_cons_zero, List.getElem_cons_succ]
      refine wpAnyH_take (i := 4) (v := .int .i64 ((L - i : Nat) : Int)) rfl (by kernel_rfl) (by kernel_rfl) (by kernel_rfl) (fun _ _ _ h => h) (Or.inl ⟨by rfl, ?_⟩) hSd ?_
      · rintro w6 ⟨k1, k2⟩
        go_simp
      simp only [Act.put, List.setIfInBounds_toArray, List.set_cons_zero, List.set_cons_succ, List.getElem_toArray, List.getElem_cons_zero, List.getElem_cons_succ]
      refine wpAnyH_take (i := 5) (v := .int .i64 (pz : Int)) rfl (by kernel_rfl) (by kernel_rfl) (by kernel_rfl) (fun _ _ _ h => h) (Or.inl ⟨by rfl, ?_⟩) hSd ?_
      · rintro w6 ⟨k1, k2⟩
        go_simp
        have := HPM.out
        split <;> omega
      simp only [Act.put, List.setIfInBounds_toArray, List.set_cons_zero, List.set_cons_succ, List.getElem_toArray, List.getElem_cons_zero, List.getElem_cons_succ]
      refine wpAnyH_take (i := 6) (v := .int .i64 (pz : Int)) rfl (by kernel_rfl) (by kernel_rfl) (by kernel_rfl) (fun _ _ _ h => h) (Or.inl ⟨by rfl, ?_⟩) hSd ?_
      · rintro w6 ⟨k1, k2⟩
        go_simp
      simp only [Act.put, List.setIfInBounds_toArray, List.set_cons_zero, List.set_cons_succ, List.getElem_toArray, List.getElem_cons_zero, List.getElem_cons_succ]
      refine wpAnyH_done (by kernel_rfl) ?_ _
      refine hK _ _ ?_
      gi_wp2
      refine HR.out.mono ?_
      rintro e W3 (⟨rfl, hJ3, hk3⟩ | ⟨rfl, hJx3⟩)
      · have cs3 : W3.cell? ⟨Bs, 0, none⟩ = some (.slice (some ⟨B, 0, none⟩) L c) := by
          unfold World.cell? at cs2 ⊢
          rw [hk3.1]
          exact cs2
        have cn3 : W3.cell? ⟨Bn, 0, none⟩ = some (.int .i64 119) := by
          unfold World.cell? at cn2 ⊢
          rw [hk3.2]
          exact cn2
        clear hk3 hSd cs2 cn2 cs cn
        gi_wp2
        go_roundw
        case rel => exact ⟨pre ++ [k], k + 1, i + 119, by go_num, by have := HIK.out; omega, by have := HIK.out; omega, range_more _ _ HP.out, hJ3, cs3, cn3⟩
        case measure => simp [intOf]; omega
      · gi_wp2
        refine bodyPost_ret (results_none rfl _ _ _) rfl ?_
        refine ⟨⟨_, rfl⟩, .inr ⟨pre ++ [k], ?_, hJx3⟩⟩
        rw [range_more _ _ HP.out]
        have h1 : k + 1 ≤ (L + 118) / 119 := by have := HIK.out; omega
        obtain ⟨d, hd⟩ : ∃ d, (L + 118) / 119 = k + 1 + d := ⟨_, (Nat.add_sub_cancel' h1).symm⟩
        rw [hd]
        exact ⟨(List.range d).map (fun x => (k + 1) + x), List.range_add.symm⟩
    · have HF : Hid (k = (L + 118) / 119) := Lib.hid (by omega)
      gi_wp2
      go_end0
      exact ⟨⟨_, rfl⟩, .inl ⟨pre, by rw [HP.out, HF.out], hJ⟩⟩
theorem chunk_stops (n : Nat) (hn : 1 ≤ n) (Bs Bn B L c : Nat) (hL0 : 0 < L) (hL : L ≤ 600) (hc : L ≤ c) (hcm : c ≤ maxLen) (w : World) (hBs : w.cell? ⟨Bs, 0, none⟩ = some (.slice (some ⟨B, 0, none⟩) L c)) (hBn : w.cell? ⟨Bn, 0, none⟩ = some (.int .i64 119)) :
    SeqStopsK Fence.wide n Tryd.prog 48 #[.pointer (some ⟨Bs, 0, none⟩), .pointer (some ⟨Bn, 0, none⟩)] (encC B L) (KpC Bs Bn) (fun ys => ys = List.range ((L + 118) / 119)) (fun pre => pre <+: List.range ((L + 118) / 119)) ((L + 118) / 119) w := fun l J Jx W hW hJ hJx hY h0 =>
  chunk1_in n hn l Bs Bn B L c hL0 hL hc hcm J Jx (fun pre W h => hJ pre W W.drew none h ⟨rfl, rfl, rfl, Nat.le_refl _, fun _ _ _ => rfl⟩ (fun r e => by cases e)) hY W (cell_below hBs hW) (cell_below hBn hW) h0

end Go.Proofs.YtdoabcbembinjaaDoor
end

section
namespace Go.Proofs.YtdoabcbembinjaaDoor
open Go.RowKit
set_option linter.unusedVariables false
attribute [local go_sem] Oper.semAt_some

theorem conv_arg9 (w : World) (l : List UInt8) (hl : l.length ≤ 1000000) : ∃ c W, (convert 9 31 (.string ⟨l.toArray⟩)).run Tryd.prog w = .ok (.slice (some ⟨w.heap.size, 0, none⟩) l.length c) W ∧ Arg W (some ⟨w.heap.size, 0, none⟩) l.length c l ∧ Below w.heap.size w W := by
  have h := Lib.run_convert_string_bytes (P := Tryd.prog) w 9 31 5 ⟨l.toArray⟩ Tryd.underlying9 Tryd.underlying31 Tryd.underlying5
  rw [size_list] at h
  have hcell : ∀ j u, (l.map byteV)[j]? = some u → (Lib.bytesWorld w 5 ⟨l.toArray⟩).cell? ⟨w.heap.size, 0 + j, none⟩ = some u := fun j u hj => by
    have hjl := (List.getElem?_eq_some_iff.1 hj).1
    rw [List.length_map] at hjl
    rw [Nat.zero_add, Lib.bytesWorld_cell w 5 ⟨l.toArray⟩ j (by rw [size_list]; exact hjl), ← hj]
    simp [List.getD, hjl, byteV]
  refine ⟨_, _, h, ⟨rfl, fun hx => ⟨w.heap.size, 0, rfl, hcell⟩, ?_, ?_, ?_, fun h => by cases h⟩, ?_⟩
  · intro _ a ha
    injection ha with ha
    subst ha
    rw [Lib.bytesWorld_size]
    exact Nat.lt_succ_self _
  · exact grownCap_ge w _ 0 5
  · exact grownCap_le_maxLen w _ 0 5 (by unfold maxLen; omega)
  · exact ⟨rfl, rfl, rfl, by rw [Lib.bytesWorld_size]; omega, fun i hi => Lib.bytesWorld_at_old w 5 ⟨l.toArray⟩ i hi⟩

theorem only_fresh {a b c : World} {P : Nat} {row : Option Nat} (h : a.grownBy b (some P)) (k : b.grownBy c row) (hr : ∀ g, row = some g → a.heap.size ≤ g) : a.grownBy c (some P) :=
  ⟨k.os.trans h.os, k.tape.trans h.tape, k.output.trans h.output, Nat.le_trans h.size k.size, fun i hi hne => (k.block i (Nat.lt_of_lt_of_le hi h.size) (fun e => by have := hr i e.symm; omega)).trans (h.block i hi hne)⟩
theorem own_by9 {w : World} {B : Nat} {t : TypeId} {v : Value} {s n : Nat} {xs : List Value} (h : w.ownsRow B t s v n xs) : ∃ A c, v = .slice A n c ∧ n ≤ c ∧ c ≤ maxLen := by
  rcases h.2 with ⟨rfl, rfl⟩ | ⟨g, cap, cur, rfl, _, _, h1, h2, _⟩
  · exact ⟨none, 0, rfl, Nat.le_refl _, Nat.zero_le _⟩
  · exact ⟨_, cap, rfl, h1, h2⟩
structure RowH (B : Nat) (w : World) (x : Hd) : Prop where
  len : x.n = x.l.length
  pos : 0 < x.n
  row : Row w 5 B x.a (x.l.map byteV)
  room : x.n ≤ x.c
  most : x.c ≤ maxLen
theorem RowH.arg {B : Nat} {w : World} {x : Hd} (h : RowH B w x) : Arg w x.a x.n x.c x.l := Arg.of_row h.row h.len h.pos h.room h.most
theorem RowH.below {B : Nat} {w w' : World} {x : Hd} (h : RowH B w x) (hb : Below w.heap.size w w') : RowH B w' x := ⟨h.len, h.pos, h.row.below hb, h.room, h.most⟩
theorem RowH.own {B b s n : Nat} {w w' : World} {x : Hd} {v : Value} {ys : List Value} (h : RowH B w x) (ho : w.ownsRow b 31 s v n ys) (hg : w.grownBy w' v.ownBlock) : RowH B w' x := ⟨h.len, h.pos, h.row.kept_own ho (by decide) hg, h.room, h.most⟩
def pgsN (s : List UInt8) (l : List Int) (pre : List Nat) : List (List UInt8) := pre.zipIdx.map fun x => cPage 3 [numB (l.getD (x.2 + 1) 0).toNat 2 ++ partL s x.1]
theorem pgsN_snoc (s : List UInt8) (l : List Int) (pre : List Nat) (x : Nat) : pgsN s l (pre ++ [x]) = pgsN s l pre ++ [cPage 3 [numB (l.getD (pre.length + 1) 0).toNat 2 ++ partL s x]] := by
  unfold pgsN
  rw [List.zipIdx_append, List.map_append]
  simp
theorem pgsN_all (s : List UInt8) (l : List Int) (n : Nat) (hn : n = l.length) : pgsN s l (List.range n) = pagesN s l := by
  subst hn
  unfold pgsN pagesN
  apply List.ext_getElem
  · simp
  · intro i h1 h2
    simp [pageN, cellN]
def PutEnd (s : List UInt8) (l : List Int) (w : World) (e : Ending) (w' : World) : Prop :=
  ∃ A n c q, e = .returned (.tuple #[.slice A n c, .int .i64 (putN s l).2]) ∧ CellsA w' A n c q ∧ lq q = (putN s l).1 ∧ (∀ x ∈ q, RowH w.heap.size w' x) ∧ Below w.heap.size w w' ∧ Row w' 31 w.heap.size A (q.map Hd.v)
theorem hPut_no (s : List UInt8) (A : Option Addr) (n c : Nat) (l : List Int) (w : World) (hs : s.length ≤ 1000000) (h : Ints6 w A n l) (hn : n ≤ 1000000) (hc : n ≤ c) (hcm : c ≤ maxLen) (hg : ¬ goodP s l) :
    Calls Tryd.prog 9 #[.string ⟨s.toArray⟩, .slice A n c] w (PutEnd s l w) := by
  have hp : putN s l = ([], 1) := by unfold putN; rw [if_neg hg]
  have HR : Hid (∀ w', Below w.heap.size w w' → PutEnd s l w (.returned (.tuple #[.slice none 0 0, .int .i64 1])) w') := Lib.hid (fun w' hb => by
    unfold PutEnd
    rw [hp]
    exact ⟨none, 0, 0, [], rfl, CellsA.none_ _, rfl, (by intro x hx; cases hx), hb, Row.empty⟩)
  obtain ⟨W, hW⟩ : ∃ W, (w.alloc (.cells #[.slice none 0 0] 24)).alloc (.cells #[.int .i64 0] 25) = W := ⟨_, rfl⟩
  have HBW : Hid (Below w.heap.size w W) := Lib.hid (hW ▸ (((Below.refl _ w).alloc (Nat.le_refl _) _).alloc (by simp) _))
  have HL := Lib.hid (isLong_any (s.length : Int) W)
  have HN := Lib.hid (hNeed_any (s.length : Int) W)
  have HD := Lib.hid (hDist_any A n c l W (h.below9 HBW.out) hn hc hcm)
  have hz : (⟨s.toArray⟩ : ByteArray).size = s.length := size_list s
  have hh4 : Has W w.heap.size 24 #[.slice none 0 0] := hW ▸ (Has.made w 24 #[.slice none 0 0]).alloc _
  have hh5 : Has W (w.heap.size + 1) 25 #[.int .i64 0] := hW ▸ (by have := Has.made (w.alloc (.cells #[.slice none 0 0] 24)) 25 #[.int .i64 0]; simpa using this)
  have HE : Hid (∃ W', (W.setCell ⟨w.heap.size, 0, none⟩ (.slice none 0 0)).setCell ⟨w.heap.size + 1, 0, none⟩ (.int .i64 1) = W' ∧ Below w.heap.size w W' ∧ W'.cell? ⟨w.heap.size, 0, none⟩ = some (.slice none 0 0) ∧ W'.cell? ⟨w.heap.size + 1, 0, none⟩ = some (.int .i64 1)) := Lib.hid (by
    have k4 := hh4.store 0 (.slice none 0 0)
    have k5 := hh5.away (p := ⟨w.heap.size, 0, none⟩) (by simp) (.slice none 0 0)
    refine ⟨_, rfl, ?_, ?_, ?_⟩
    · exact (HBW.out.setCell (by simp) _).setCell (by simp) _
    · exact ((k4.away (p := ⟨w.heap.size + 1, 0, none⟩) (by simp) (.int .i64 1)).cell 0).trans (by simp)
    · exact ((k5.store 0 (.int .i64 1)).cell 0).trans (by simp))
  have c4 := hh4.cell 0
  have c5 := hh5.cell 0
  have f4 := hh4.free 0
  have f5 := hh5.free 0
  have f5b : (W.setCell ⟨w.heap.size, 0, none⟩ (.slice none 0 0)).frozen? ⟨w.heap.size + 1, 0, none⟩ = false := (hh5.away (p := ⟨w.heap.size, 0, none⟩) (by simp) (.slice none 0 0)).free 0
  have c5b : (W.setCell ⟨w.heap.size, 0, none⟩ (.slice none 0 0)).cell? ⟨w.heap.size + 1, 0, none⟩ = some (.int .i64 0) := ((hh5.away (p := ⟨w.heap.size, 0, none⟩) (by simp) (.slice none 0 0)).cell 0).trans (by simp)
  have HW := Lib.hid hW
  simp only [List.getElem?_toArray, List.getElem?_cons_zero] at c4 c5
  clear hh4 hh5 hW hp
  obtain ⟨sb, hsb⟩ : ∃ sb : ByteArray, (⟨s.toArray⟩ : ByteArray) = sb := ⟨_, rfl⟩
  rw [hsb] at hz ⊢
  clear hsb
  cases hl : lgB s.length
  · rw [hl] at HL
    go_enter Tryd.func9, Tryd.ntmps9
    go_wp2_with (first
      | (go_at_call 23; go_loud ((try rw [HW.out]); (with_reducible refine HL.out.mono ?_); rintro e w1 ⟨rfl, rfl⟩)))
    obtain ⟨W', hW', hB', d4, d5⟩ := HE.out
    rw [hW']
    refine ⟨rfl, .tuple #[.slice none 0 0, .int .i64 1], ?_, HR.out _ hB'⟩
    simp [results, Tryd.f9, go_sem, d4, d5]
  · rw [hl] at HL
    by_cases hnn : n = needN s.length
    · have hko : decide (okP l) = false := decide_eq_false (fun ho => hg ⟨hl, by rw [← h.len, hnn], ho⟩)
      rw [hko] at HD
      have HNN := Lib.hid hnn.symm
      rw [HNN.out] at HN
      clear hnn hl hg h hko
      go_enter Tryd.func9, Tryd.ntmps9
      go_wp2_with (first
        | (go_at_call 23; (try rw [HW.out]); (with_reducible refine HL.out.mono ?_); rintro e w1 ⟨rfl, rfl⟩)
        | (go_at_call 11; (with_reducible refine HN.out.mono ?_); rintro e w1 ⟨rfl, rfl⟩)
        | (go_at_call 24; (with_reducible refine HD.out.mono ?_); rintro e w1 ⟨rfl, rfl⟩))
      obtain ⟨W', hW', hB', d4, d5⟩ := HE.out
      rw [hW']
      refine ⟨rfl, .tuple #[.slice none 0 0, .int .i64 1], ?_, HR.out _ hB'⟩
      simp [results, Tryd.f9, go_sem, d4, d5]
    · obtain ⟨m, hm⟩ : ∃ m, needN s.length = m := ⟨_, rfl⟩
      rw [hm] at HN hnn
      have hne : ((n : Int) != (m : Int)) = true := by simp; omega
      clear hm hl hg h
      go_enter Tryd.func9, Tryd.ntmps9
      go_wp2_with (first
        | (go_at_call 23; (try rw [HW.out]); (with_reducible refine HL.out.mono ?_); rintro e w1 ⟨rfl, rfl⟩)
        | (go_at_call 11; (with_reducible refine HN.out.mono ?_); rintro e w1 ⟨rfl, rfl⟩))
      obtain ⟨W', hW', hB', d4, d5⟩ := HE.out
      rw [hW']
      refine ⟨rfl, .tuple #[.slice none 0 0, .int .i64 1], ?_, HR.out _ hB'⟩
      simp [results, Tryd.f9, go_sem, d4, d5]
end Go.Proofs.YtdoabcbembinjaaDoor
end
