import Derived.Test.YthcjledpjlpfaaaDoorJ02
import Derived.Deep.RegionHeld
import Derived.BigQuiet
import Derived.Test.YthcjledpjlpfaaaDoorJ05
import Derived.Test.YthcjledpjlpfaaaDoorJ00
/- Of a claim's texts, joined: Cea Dnw Dpg Dlw Daw Dls Drf Dss Dtw Dym Dot. No statement but in the last. -/
section
namespace Go.Proofs.YthcjledpjlpfaaaDoor
open Go.RowKit
set_option linter.unusedVariables false

structure Hd where
  a : Option Addr
  n : Nat
  c : Nat
  l : List UInt8
def Hd.v (h : Hd) : Value := .slice h.a h.n h.c
structure CellsA (w : World) (A : Option Addr) (n c : Nat) (q : List Hd) : Prop where
  len : n = q.length
  reads : Reads w A (q.map Hd.v)
  each : ∀ h ∈ q, Arg w h.a h.n h.c h.l
  room : n ≤ c
  most : c ≤ maxLen
  nil : A = none → c = 0
def lq (q : List Hd) : List (List UInt8) := q.map Hd.l
theorem CellsA.below {w w' : World} {A : Option Addr} {n c : Nat} {q : List Hd} (h : CellsA w A n c q) (hb : Below w.heap.size w w') : CellsA w' A n c q :=
  ⟨h.len, h.reads.keep_ hb, fun x hx => (h.each x hx).below hb, h.room, h.most, h.nil⟩
theorem CellsA.at {w : World} {A : Option Addr} {n c : Nat} {q : List Hd} (h : CellsA w A n c q) {k : Nat} (hk : k < q.length) :
    ∃ g off, A = some ⟨g, off, none⟩ ∧ w.cell? ⟨g, off + k, none⟩ = some (.slice (q[k]).a (q[k]).n (q[k]).c) := by
  obtain ⟨g, off, hA, hc⟩ := h.reads (by simp; omega)
  exact ⟨g, off, hA, hc k _ (by simp [List.getElem?_eq_getElem hk, Hd.v])⟩
theorem CellsA.hdr {w : World} {A : Option Addr} {n c : Nat} {q : List Hd} (h : CellsA w A n c q) {k : Nat} (hk : k < q.length) : Arg w (q[k]).a (q[k]).n (q[k]).c (q[k]).l := h.each _ (List.getElem_mem hk)
theorem lq_len (q : List Hd) : (lq q).length = q.length := by simp [lq]
theorem lq_at (q : List Hd) {k : Nat} (hk : k < q.length) : (lq q)[k]? = some (q[k]).l := by simp [lq, hk]
theorem CellsA.none_ (w : World) : CellsA w none 0 0 [] := ⟨rfl, Reads.empty, fun x hx => (by cases hx), Nat.le_refl _, Nat.zero_le _, fun _ => rfl⟩
def Few (q : List Hd) : Prop := q.length ≤ 1000 ∧ ∀ x ∈ q, x.l.length ≤ 1000
theorem Few.size {q : List Hd} (h : Few q) : cSz (lq q) ≤ 1001000 := by
  have := cSz_few (lq q) 1000 1000 (by rw [lq_len]; exact h.1) (fun c hc => by
    obtain ⟨x, hx, rfl⟩ := List.mem_map.1 hc
    exact h.2 x hx)
  omega
theorem cSz_step {q : List Hd} {k : Nat} (hk : k < q.length) : cSz ((lq q).take (k + 1)) = cSz ((lq q).take k) + ((q[k]).l.length + 1) := cSz_more (lq_at q hk)

set_option maxHeartbeats 400000 in
theorem ceSize_any (A : Option Addr) (n c : Nat) (q : List Hd) (w : World) (h : CellsA w A n c q) (hf : Few q) :
    Calls Tryd.prog 59 #[.slice A n c] w fun e w' => e = .returned (.int .i64 (cSz (lq q) : Int)) ∧ w = w' := by
  have HA := Lib.hid h
  have HF := Lib.hid hf
  have HL := Lib.hid h.len
  have hs := hf.size
  have hn : n ≤ 1000 := by rw [h.len]; exact hf.1
  clear h hf
  go_enter Tryd.func59, Tryd.ntmps59
  go_wp2
  go_loop [3, 10] (fun s i => ∃ k x : Nat, k ≤ n ∧ i = .int .i64 k ∧ s = .int .i64 x ∧ x + k = n + cSz ((lq q).take k)) (fun _ i => n - (intOf i).toNat)
  case atStart => exact ⟨0, n, Nat.zero_le _, rfl, rfl, by simp [cSz]⟩
  case round =>
    obtain ⟨k, x, hk, rfl, rfl, hx⟩ := hrel
    by_cases hlt : k < n
    · have hkl : k < q.length := by rw [← HL.out]; exact hlt
      have ht := cSz_take (lq q) (k + 1)
      have hm := cSz_step hkl
      obtain ⟨g, off, rfl, hc⟩ := HA.out.at hkl
      have hlen := (HA.out.hdr hkl).len
      have HS := Lib.hid (show x + (q[k]).n + (k + 1) = n + cSz ((lq q).take (k + 1)) by rw [hm, hlen]; omega)
      have hb : x + (q[k]).n ≤ 2000000 := by have := HS.out; omega
      clear hx ht hm hlen
      generalize q[k] = y at *
      clear hkl
      go_wp2
      go_round
      case rel => exact ⟨k + 1, x + y.n, by omega, by go_num, by go_num, HS.out⟩
      case measure => simp [intOf]; omega
    · obtain rfl : k = n := by omega
      have e : (lq q).take k = lq q := List.take_of_length_le (by rw [lq_len, ← HL.out]; exact Nat.le_refl _)
      rw [e] at hx
      obtain rfl : x = cSz (lq q) := by omega
      go_wp2
      go_ret
      exact ⟨rfl, rfl⟩

def smallB (q : List Hd) : Bool := decide (q.length ≤ 300 ∧ ∀ x ∈ q, x.l.length ≤ 300)
/-! Texts. -/
def cstV (l : List UInt8) : Value := .string ⟨l.toArray⟩
structure TxtA (w : World) (A : Option Addr) (n : Nat) (l : List (List UInt8)) : Prop where
  len : n = l.length
  reads : Reads w A (l.map cstV)
theorem TxtA.below {w w' : World} {A : Option Addr} {n : Nat} {l : List (List UInt8)} (h : TxtA w A n l) (hb : Below w.heap.size w w') : TxtA w' A n l := ⟨h.len, h.reads.keep_ hb⟩
theorem TxtA.at {w : World} {A : Option Addr} {n : Nat} {l : List (List UInt8)} (h : TxtA w A n l) {k : Nat} (hk : k < l.length) :
    ∃ g off, A = some ⟨g, off, none⟩ ∧ w.cell? ⟨g, off + k, none⟩ = some (.string ⟨(l[k]).toArray⟩) := by
  obtain ⟨g, off, hA, hc⟩ := h.reads (by simp; omega)
  exact ⟨g, off, hA, hc k _ (by simp [List.getElem?_eq_getElem hk, cstV])⟩
theorem TxtA.of_own {w : World} {base n : Nat} {v : Value} {l : List (List UInt8)} (h : w.ownsRow base 9 1 v n (l.map cstV)) : ∃ A c, v = .slice A n c ∧ n ≤ c ∧ TxtA w A n l := by
  have hn : n = l.length := by have := h.1; simpa using this.symm
  rcases h.2 with ⟨rfl, rfl⟩ | ⟨g, cap, cur, rfl, h1, h2, h3, h4, h5, h6⟩
  · have := List.eq_nil_of_length_eq_zero hn.symm
    subst this
    exact ⟨none, 0, rfl, Nat.le_refl _, rfl, Reads.empty⟩
  · refine ⟨_, cap, rfl, h3, hn, fun hx => ⟨g, 0, rfl, fun j u hj => ?_⟩⟩
    have hjl := (List.getElem?_eq_some_iff.1 hj).1
    have : Has w g 9 cur := h2
    rw [this.cell, Nat.zero_add, ← hj, ← h6, List.getElem?_take, if_pos (by have := h.1; omega)]
    simp
def TxtEnd (w : World) (l : List (List UInt8)) (e : Ending) (w' : World) : Prop := ∃ A c, e = .returned (.slice A l.length c) ∧ TxtA w' A l.length l ∧ Below w.heap.size w w'
theorem stinfo : (Tryd.prog.info? 9).map (fun i => (i.zero, i.size, i.bytes)) = some (some (.string ByteArray.empty), 1, 16) := by kernel_rfl
theorem st_own_nil (w : World) (B : Nat) : w.ownsRow B 9 1 (.slice none 0 0) 0 [] := ⟨rfl, .inl ⟨rfl, rfl⟩⟩


theorem ceOwnBelow {w w' : World} {b : Nat} {e : TypeId} {s n : Nat} {v : Value} {xs : List Value} (h : w.ownsRow b e s v n xs) (hb : Below w.heap.size w w') : w'.ownsRow b e s v n xs :=
  h.kept (row := none) ⟨hb.os, hb.tape, hb.output, hb.size, fun k hk _ => hb.block k hk⟩ (by
    rcases v.ownBlock with _ | g
    · exact .inl rfl
    · exact .inr (by simp))
theorem wpList_append_one {P : Program} {w : World} {ops : Array Oper} {rest : List Oper} {o : Oper} {a : Act} {Q : Exit → Act → World → Prop} (hgd : o.guard = none) (s x : Operand) (t t' : TypeId)
    (ho : o.op = .call { callee := .builtin .append, args := #[s, x], argTypes := #[t, t] }) (base : Nat) (e : TypeId) (i : TypeInfo) (z : Value) (bytes : Nat) (ht : P.underlying t = some (.slice e)) (hi : P.info? e = some i) (hz : i.zero = some z)
    (hsize : i.size = 1) (hby : i.bytes = bytes) (hzs : z.cells.size = 1) (v : Value) (n : Nat) (xs : List Value) (hs : a.eval s = v) (hown : w.ownsRow base e 1 v n xs) (u : Value) (hx : a.eval x = .slice (some ⟨w.heap.size, 0, none⟩) 1 1) (hu : u.oneCell' = true)
    (hmax : (n + 1) * bytes ≤ 140737488355328) (h63 : n + 1 ≤ maxLen) (hbase : base ≤ w.heap.size)
    (h : ∀ v' w', w'.ownsRow base e 1 v' (n + 1) (xs ++ [u]) → Below base w w' → wpList P ops Q rest (a.put o.dst v') w') : wpList P ops Q (o :: rest) a (w.alloc (.cells #[u] t')) := by
  refine wpList_append_own _ hgd s x t ho base e i z 1 bytes ht hi hz hsize hby hzs (by decide) v n xs hs (hown.alloc _) ⟨w.heap.size, 0, none⟩ 1 1 [u] hx rfl (fun j y hj => ?_) (fun y hy => ?_) (by omega) (by omega) (by simp; omega) (fun v' w' h1 h2 _ => h v' w' h1 ?_)
  · rw [add_plain, (Has.made w t' #[u]).cell]
    simpa using hj
  · obtain rfl := List.mem_singleton.1 hy
    exact hu
  · exact ((Below.refl _ w).mono hbase |>.alloc hbase _).grown h2 (by simp; omega) (fun k hk => (hown.lt k hk).1)


set_option maxHeartbeats 1000000 in
theorem r7Size_any (A : Option Addr) (n c : Nat) (l : List (List UInt8)) (w : World) (h : TxtA w A n l) (hs : cSz l ≤ 1001000) :
    Calls Tryd.prog 48 #[.slice A n c] w fun e w' => e = .returned (.int .i64 (cSz l : Int)) ∧ w = w' := by
  have HA := Lib.hid h
  have HL := Lib.hid h.len
  have hn : n ≤ 1001000 := by have := cSz_len l; rw [h.len]; omega
  clear h
  go_enter Tryd.func48, Tryd.ntmps48
  go_wp2
  go_loop [3, 4] (fun s i => ∃ k : Nat, k ≤ n ∧ i = .int .i64 k ∧ s = .int .i64 (cSz (l.take k) : Int)) (fun _ i => n - (intOf i).toNat)
  case atStart => exact ⟨0, Nat.zero_le _, rfl, rfl⟩
  case round =>
    obtain ⟨k, hk, rfl, rfl⟩ := hrel
    by_cases hlt : k < n
    · have hkl : k < l.length := by rw [← HL.out]; exact hlt
      have ht := cSz_take l (k + 1)
      have hm := cSz_more (List.getElem?_eq_getElem hkl)
      obtain ⟨g, off, rfl, hc⟩ := HA.out.at hkl
      generalize l[k] = y at *
      have hz : (⟨y.toArray⟩ : ByteArray).size = y.length := size_list y
      have HS := Lib.hid hm
      have hb : cSz (l.take k) + y.length + 1 ≤ 2000000 := by omega
      generalize cSz (l.take k) = x at *
      obtain ⟨sz, hsz⟩ : ∃ z : ByteArray, (⟨y.toArray⟩ : ByteArray) = z := ⟨_, rfl⟩
      rw [hsz] at hc hz
      have HZ := Lib.hid hz
      have hb2 : x + sz.size + 1 ≤ 2000000 := by omega
      clear hm ht hkl hsz hz hb
      go_wp2
      go_round
      case rel => exact ⟨k + 1, by omega, by go_num, by rw [HS.out, ← HZ.out]; go_num⟩
      case measure => simp [intOf]; omega
    · obtain rfl : k = n := by omega
      have e : l.take k = l := List.take_of_length_le (by rw [← HL.out]; exact Nat.le_refl _)
      rw [e]
      go_wp2
      go_ret
      exact ⟨rfl, rfl⟩

def sameB (l m : List (List UInt8)) : Bool := decide (l = m)
set_option maxHeartbeats 2000000 in
theorem r7Same_any (A B : Option Addr) (n c m d : Nat) (l x : List (List UInt8)) (w : World) (h : TxtA w A n l) (h' : TxtA w B m x) (hl : n ≤ 1000000) :
    Calls Tryd.prog 13 #[.slice A n c, .slice B m d] w (fun e w' => e = .returned (.bool (sameB l x)) ∧ Below w.heap.size w w') := by
  have HA := Lib.hid h
  have HB := Lib.hid h'
  have HL := Lib.hid h.len
  have HM := Lib.hid h'.len
  clear h h'
  by_cases hnm : n = m
  · subst hnm
    go_enter Tryd.func13, Tryd.ntmps13
    go_wp2
    go_loopw [5] (fun i wr => ∃ k : Nat, k ≤ n ∧ i = .int .i64 k ∧ l.take k = x.take k ∧ Below w.heap.size w wr) (fun i _ => n - (intOf i).toNat)
    case atStart => exact ⟨0, Nat.zero_le _, rfl, rfl, Below.refl _ _⟩
    case round =>
      obtain ⟨k, hk, rfl, hE, hB⟩ := hrel
      have BW := Lib.hid hB
      have HE := Lib.hid hE
      clear hB hE
      by_cases hlt : k < n
      · have hk1 : k < l.length := by rw [← HL.out]; exact hlt
        have hk2 : k < x.length := by rw [← HM.out]; exact hlt
        have NX1 := List.take_succ_eq_append_getElem hk1
        have NX2 := List.take_succ_eq_append_getElem hk2
        have g1 := List.getElem?_eq_getElem hk1
        have g2 := List.getElem?_eq_getElem hk2
        obtain ⟨a1, o1, rfl, c1⟩ := (HA.out.below BW.out).at hk1
        obtain ⟨a2, o2, rfl, c2⟩ := (HB.out.below BW.out).at hk2
        generalize l[k] = y at *
        generalize x[k] = z at *
        have NX1 := Lib.hid NX1
        have NX2 := Lib.hid NX2
        have i0 : (0 : Int) ≤ (k : Int) := by omega
        have i1 : (k : Int) < (n : Int) := by omega
        by_cases hyz : y = z
        · subst hyz
          clear hk1 hk2 g1 g2
          go_wp2
          go_region
          all_goals
            go_wp2
            go_roundw
            case rel => exact ⟨k + 1, by omega, by go_num, by rw [NX1.out, NX2.out, HE.out], BW.out.drew⟩
            case measure => simp [intOf]; omega
        · have HD : Hid (sameB l x = false) := Lib.hid (decide_eq_false (by
            rintro rfl
            rw [g1] at g2
            injection g2 with g2
            exact hyz g2))
          have hq : (y == z) = false := by simpa using hyz
          clear hk1 hk2 g1 g2
          go_wp2
          go_region
          all_goals
            go_wp2
            go_ret
            exact ⟨by rw [HD.out]; rfl, BW.out.drew⟩
      · obtain rfl : k = n := by omega
        have HD : Hid (sameB l x = true) := Lib.hid (decide_eq_true (by
          have h1 := HE.out
          rwa [List.take_of_length_le (Nat.le_of_eq HL.out.symm), List.take_of_length_le (Nat.le_of_eq HM.out.symm)] at h1))
        obtain ⟨w3, hw3⟩ : ∃ w3 : World, w3 = wr := ⟨_, rfl⟩
        subst hw3
        go_wp2
        go_ret
        exact ⟨by rw [HD.out]; rfl, BW.out⟩
  · have HD : Hid (sameB l x = false) := Lib.hid (decide_eq_false (by
      rintro rfl
      exact hnm (HL.out.trans HM.out.symm)))
    have hne : ((n : Int) == (m : Int)) = false := beq_false_of_ne (by omega)
    go_enter Tryd.func13, Tryd.ntmps13
    go_wp2
    go_ret
    exact ⟨by rw [HD.out]; rfl, Below.refl _ _⟩

end Go.Proofs.YthcjledpjlpfaaaDoor
end

section
namespace Go.Proofs.YthcjledpjlpfaaaDoor
open Go.RowKit
set_option linter.unusedVariables false

def newB (ls : List Int) : Bool := decide (1 ≤ ls.length) && decide (ls.length ≤ 64) && ls.all szB
theorem area_info : (Tryd.prog.info? 73).map (fun i => (i.zero, i.size, i.bytes)) = some (some (.agg #[.int .i64 0, .map none, .slice none 0 0, .map none, .int .i64 0, .bool false]), 6, 64) := by kernel_rfl
theorem make_areas (n : Nat) (hn : n ≤ 1000) (w : World) : (Instr.makeSlice 66 (.int .i64 n) (.int .i64 n)).run Tryd.prog w = .ok (.slice (some ⟨w.heap.size, 0, none⟩) n n) (w.alloc (.cells (madeCells #[.int .i64 0, .map none, .slice none 0 0, .map none, .int .i64 0, .bool false] (n * 6)) 73)) := by
  obtain ⟨i0, hi, hz0, hz1, hz2⟩ := info_parts area_info
  have := run_make (P := Tryd.prog) (w := w) 66 73 i0 _ Tryd.underlying66 hi hz0 .i64 .i64 n n (by omega) (by omega) (by rw [hz2]; omega) (by omega)
  simp only [Int.toNat_natCast, hz1] at this
  exact this
section
variable {T : Tg} {d : Nat} {w : World}
def NewEnd (T : Tg) (d : Nat) (rs : List Rg) (w : World) (e : Ending) (w' : World) : Prop :=
  ∃ D A T', e = .returned (.tuple #[.pointer (some ⟨D, 0, none⟩), .int .i64 0]) ∧ Dk w' T' d D A rs ∧ Tn T d w T' w' ∧ Below w.heap.size w w'
set_option maxRecDepth 100000 in
set_option maxHeartbeats 4000000 in
theorem New_ok (A : Option Addr) (n c : Nat) (ls : List Int) (h : Ints6 w A n ls) (hlo : ∀ x t, T x = some t → x < w.heap.size) (hb : newB ls = true) :
    Calls Tryd.prog 16 #[.slice A n c] w (NewEnd T d (ls.map fun x => fresh6 x.toNat) w) := by
  have hb' : (1 ≤ ls.length ∧ ls.length ≤ 64) ∧ ls.all szB = true := by simpa [newB] using hb
  obtain ⟨⟨n1, n2⟩, hall⟩ := hb'
  have hnl := h.len
  rw [← hnl] at n1 n2
  have HS := Lib.hid (areSizes_any A n c ls w h (by omega))
  rw [hall] at HS
  have HA := Lib.hid h
  have HN := Lib.hid hnl
  have HALL := Lib.hid hall
  have hmk := make_areas n (by omega)
  obtain ⟨z, hz⟩ : ∃ z, madeCells #[Value.int .i64 0, .map none, .slice none 0 0, .map none, .int .i64 0, .bool false] (n * 6) = z := ⟨_, rfl⟩
  have hzs : z.size = n * 6 := by rw [← hz, size_madeCells]
  rw [hz] at hmk
  have ST := Lib.hid (NewRel.start (T := T) (d := d) (n := n) (ls := ls) hlo z hzs (w.heap.size + 1) rfl)
  have hmm := @run_makeMap Tryd.prog
  clear h hlo hb hall hnl hz
  go_enter Tryd.func16, Tryd.ntmps16
  go_wp2_with (go_at_call 32; (with_reducible refine HS.out.mono ?_); rintro e w2 ⟨rfl, rfl⟩)
  go_loopw [27] (fun i wr => ∃ k : Nat, k ≤ n ∧ i = .int .i64 (k : Int) ∧ ∃ T', NewRel T d w w.heap.size (w.heap.size + 1) n ls k T' wr) (fun i _ => n - (intOf i).toNat)
  case atStart => exact ⟨0, Nat.zero_le _, rfl, _, ST.out⟩
  case round =>
    obtain ⟨k, hk, rfl, T', hr⟩ := hrel
    have HR := Lib.hid hr
    have cD := hr.hd.cell0
    clear hr
    by_cases hlt : k < n
    · have hkl : k < ls.length := by rw [← HN.out]; exact hlt
      obtain ⟨x, hx⟩ : ∃ x, ls[k]? = some x := ⟨_, List.getElem?_eq_getElem hkl⟩
      obtain ⟨g, off, hA, hc⟩ := HA.out.at_ hx
      subst hA
      have hc2 := cellB hc HR.out.bel
      have hsx : szB x = true := by
        have := HALL.out
        rw [List.all_eq_true] at this
        exact this x (List.mem_of_getElem? hx)
      have NXT := Lib.hid (HR.out.step hlt hx hsx)
      have i0 : (0 : Int) ≤ (k : Int) := by omega
      have i1 : (k : Int) < (n : Int) := by omega
      have hst : (Instr.storeAt 73 (.pointer (some ⟨w.heap.size, k * 6, none⟩)) (.agg (newCells wr.heap.size (wr.heap.size + 1) x).toArray)).run Tryd.prog ((wr.alloc (.map #[] 0)).alloc (.map #[] 0)) = .ok () (((wr.alloc (.map #[] 0)).alloc (.map #[] 0)).setCells w.heap.size (k * 6) (newCells wr.heap.size (wr.heap.size + 1) x)) :=
        run_storeAt_mid _ w.heap.size (k * 6) 73 _ (HR.out.there hlt (((Below.refl _ wr).alloc (Nat.le_refl _) _).alloc (by simp) _)) (by kernel_rfl) (by simp [newCells, Value.oneCell'])
      clear hc hx hsx hkl
      have cD2 : ((wr.alloc (.map #[] 0)).alloc (.map #[] 0)).cell? ⟨w.heap.size + 1, 0, none⟩ = some (.slice (some ⟨w.heap.size, 0, none⟩) n n) := cellB cD (((Below.refl _ wr).alloc (Nat.le_refl _) _).alloc (by simp) _)
      unfold newCells at hst
      generalize hw3 : ((wr.alloc (.map #[] 0)).alloc (.map #[] 0)).setCells w.heap.size (k * 6) _ = w3 at hst
      have HW3 := Lib.hid hw3
      clear hw3
      go_wp2_with (refine wpL_store rfl 73 (.tmp 41) (.tmp 40) rfl _ _ rfl rfl _ hst ?_)
      go_roundw
      case rel => exact ⟨k + 1, by omega, by go_num, _, by rw [← HW3.out]; exact NXT.out⟩
      case measure => simp [intOf]; omega
    · obtain rfl : k = n := by omega
      obtain ⟨w3, hw3⟩ : ∃ w3 : World, w3 = wr := ⟨_, rfl⟩
      subst hw3
      go_wp2
      go_ret2
      exact ⟨_, _, T', rfl, HR.out.dk HN.out, HR.out.tn, HR.out.bel⟩
end

end Go.Proofs.YthcjledpjlpfaaaDoor
end

section
namespace Go.Proofs.YthcjledpjlpfaaaDoor
open Go.RowKit
set_option linter.unusedVariables false

structure St where
  kind : Int
  region : Int
  page : Int
  fill : UInt8
  short : Bool
  keep : List (List UInt8)
def pgLen (s : St) : Nat := if s.short then 127 else 128
def pgB (s : St) : List UInt8 := List.replicate (pgLen s) s.fill
def stV (s : St) (kv : Value) : Value := .agg #[.int .i64 s.kind, .int .i64 s.region, .int .i64 s.page, byteV s.fill, .bool s.short, kv]
def PgEnd (l : List UInt8) (w : World) (e : Ending) (w' : World) : Prop := ∃ g, e = .returned (.slice (some ⟨g, 0, none⟩) l.length l.length) ∧ w.heap.size ≤ g ∧ Has w' g 5 (l.map byteV).toArray ∧ Below w.heap.size w w'
theorem make_bytes6 (n : Nat) (hn : n ≤ 1000000) (w : World) : (Instr.makeSlice 32 (.int .i64 n) (.int .i64 n)).run Tryd.prog w = .ok (.slice (some ⟨w.heap.size, 0, none⟩) n n) (w.alloc (.cells (madeCells #[.int .u8 0] n) 5)) := by
  obtain ⟨i0, hi, hz0, hz1, hz2⟩ := info_parts u8info
  have := run_make (P := Tryd.prog) (w := w) 32 5 i0 (.int .u8 0) Tryd.underlying32 hi hz0 .i64 .i64 n n (by omega) (by omega) (by rw [hz2]; omega) (by omega)
  simp only [Int.toNat_natCast, hz1, Nat.mul_one] at this
  exact this
def halfD (n k : Nat) (f : UInt8) : List UInt8 := List.replicate k f ++ List.replicate (n - k) 0
theorem halfD_zero (n : Nat) (f : UInt8) : ((halfD n 0 f).map byteV).toArray = madeCells #[.int .u8 0] n := by
  apply Array.ext'
  rw [toList_madeCells_one]
  simp [halfD, byteV]
end Go.Proofs.YthcjledpjlpfaaaDoor
end

section
namespace Go.Proofs.YthcjledpjlpfaaaDoor
open Go.RowKit
set_option linter.unusedVariables false

structure Dz (w0 w : World) (T : Tg) (d D A N : Nat) (rs : List Rg) : Prop where
  dk : Dk w T d D A rs
  lo : Lo w0.heap.size T w
  bel : Below w0.heap.size w0 w
  few : ∀ r ∈ rs, r.loose.length ≤ N
structure Bk (w : World) (T : Tg) (g : Nat) (t : TypeId) (cs : Array Value) : Prop where
  has : Has w g t cs
  un : T g = none
theorem Bk.tn {w w' : World} {T T' : Tg} {d g : Nat} {t : TypeId} {cs : Array Value} (h : Bk w T g t cs) (k : Tn T d w T' w') : Bk w' T' g t cs :=
  ⟨(k.block g h.has.lt (fun j hj => by rw [h.un] at hj; cases hj)).trans h.has, (k.old g h.has.lt).trans h.un⟩
theorem Bk.below {w w' : World} {T : Tg} {g : Nat} {t : TypeId} {cs : Array Value} (h : Bk w T g t cs) (hb : Below w.heap.size w w') : Bk w' T g t cs := ⟨h.has.below hb h.has.lt, h.un⟩
theorem Lo.un {W0 : Nat} {T : Tg} {w : World} (h : Lo W0 T w) {g : Nat} (hg : w.heap.size ≤ g) : T g = none := by
  cases e : T g with
  | none => rfl
  | some t => have := (h g t e).2; omega
theorem few_set {rs : List Rg} {N i : Nat} {r' : Rg} (h : ∀ r ∈ rs, r.loose.length ≤ N) (h' : r'.loose.length ≤ N) : ∀ r ∈ rs.set i r', r.loose.length ≤ N := fun r hr => by
  rcases List.mem_or_eq_of_mem_set hr with hr | rfl
  · exact h r hr
  · exact h'
theorem few_wrA {rs : List Rg} {N : Nat} (h : ∀ r ∈ rs, r.loose.length ≤ N) (x p : Int) (l : List UInt8) : ∀ r ∈ (wrA rs x p l).1, r.loose.length ≤ N + 1 := by
  have h1 : ∀ r ∈ rs, r.loose.length ≤ N + 1 := fun r hr => Nat.le_succ_of_le (h r hr)
  unfold wrA
  split
  · exact h1
  · rename_i r hr
    have hm := h r (List.mem_of_getElem? (regN_some hr).2.2)
    split
    · exact h1
    · split
      · split
        · split
          · exact few_set h1 (by rw [cntR_loose]; omega)
          · exact few_set h1 (by simp only [wrR, List.length_append, cntR_loose, List.length_cons, List.length_nil]; omega)
        · exact h1
      · exact h1
theorem set_len_wrA (rs : List Rg) (x p : Int) (l : List UInt8) : (wrA rs x p l).1.length = rs.length := by
  unfold wrA
  repeat' split
  all_goals simp
section
variable {w0 w : World} {T : Tg} {d D A N : Nat} {rs : List Rg}
theorem Dz.below {w' : World} (h : Dz w0 w T d D A N rs) (hb : Below w.heap.size w w') : Dz w0 w' T d D A N rs := ⟨h.dk.below hb, h.lo.below hb.size, below_step h.bel hb, h.few⟩
theorem Dz.more (h : Dz w0 w T d D A N rs) {M : Nat} (hm : N ≤ M) : Dz w0 w T d D A M rs := ⟨h.dk, h.lo, h.bel, fun r hr => Nat.le_trans (h.few r hr) hm⟩
theorem Dz.next {w' : World} {T' : Tg} {M : Nat} {rs' : List Rg} (h : Dz w0 w T d D A N rs) (k : Tn T d w T' w') (hd : Dk w' T' d D A rs') (hf : ∀ r ∈ rs', r.loose.length ≤ M) : Dz w0 w' T' d D A M rs' :=
  ⟨hd, k.lo h.lo h.bel.size, h.bel.trans (k.low h.lo h.bel.size), hf⟩
def DzEnd (res : Value) (w0 w : World) (T : Tg) (d D A N : Nat) (rs : List Rg) (e : Ending) (w' : World) : Prop := e = .returned res ∧ ∃ T', Dz w0 w' T' d D A N rs ∧ Tn T d w T' w'
theorem New_z {A0 : Option Addr} {n c : Nat} {ls : List Int} (d : Nat) (h : Ints6 w A0 n ls) (hlo : Lo w0.heap.size T w) (hb : Below w0.heap.size w0 w) (hn : newB ls = true) :
    Calls Tryd.prog 16 #[.slice A0 n c] w fun e w' => ∃ D A T', e = .returned (.tuple #[.pointer (some ⟨D, 0, none⟩), .int .i64 0]) ∧ Dz w0 w' T' d D A 0 (ls.map fun x => fresh6 x.toNat) ∧ Tn T d w T' w' ∧ Below w.heap.size w w' :=
  (New_ok (T := T) (d := d) A0 n c ls h hlo.lt hn).mono fun e w' ⟨D, A, T', he, hd, ht, hbb⟩ => ⟨D, A, T', he, ⟨hd, ht.lo hlo hb.size, below_step hb hbb, fun r hr => by
    obtain ⟨x, _, rfl⟩ := List.mem_map.1 hr
    simp [fresh6]⟩, ht, hbb⟩
end
def noT : Tg := fun _ => none
theorem lo_none (W0 : Nat) (w : World) : Lo W0 noT w := fun x t h => by cases h
theorem ints_lit (w : World) (l : List Int) (o : Obj) (ho : o = .cells (l.map (Value.int .i64)).toArray 3) : Ints6 (w.alloc o) (some ⟨w.heap.size, 0, none⟩) l.length l := by
  subst ho
  refine ⟨rfl, fun hx => ⟨w.heap.size, 0, rfl, fun j u hj => ?_⟩⟩
  have := (Has.made w 3 (l.map (Value.int .i64)).toArray).cell (0 + j)
  exact this.trans (by simpa using hj)

end Go.Proofs.YthcjledpjlpfaaaDoor
end

section
namespace Go.Proofs.YthcjledpjlpfaaaDoor
open Go.RowKit
set_option linter.unusedVariables false

def sA : St := ⟨0, 0, 0, 7, false, []⟩
def sB : St := ⟨0, 0, 0, 8, false, []⟩
def q0 : List Rg := [4, 5].map fun x : Int => fresh6 x.toNat
def q1 : List Rg := (wrA q0 1 4 (pgB sA)).1
def q2 : List Rg := crA [] q1
def q3 : List Rg := (wrA q2 1 4 (pgB sB)).1
def q4 : List Rg := (syA q3 1).1
def q5 : List Rg := crA [] q4
structure Aw (q0 q1 q2 q3 q4 q5 : List Rg) (lA lB lZ : List UInt8) : Prop where
  m0 : ([4, 5].map fun x : Int => fresh6 x.toNat) = q0
  w1 : (wrA q0 1 4 lA).1 = q1
  v1 : (wrA q0 1 4 lA).2 = 0
  r1 : rdL q1 1 4 = lA
  e1 : rdE q1 1 4 = 0
  l1 : looL q1 1 = [4]
  n1 : q1.length ≤ 1000
  c2 : crA [] q1 = q2
  r2 : rdL q2 1 4 = lZ
  e2 : rdE q2 1 4 = 0
  w3 : (wrA q2 1 4 lB).1 = q3
  v3 : (wrA q2 1 4 lB).2 = 0
  w4 : (syA q3 1).1 = q4
  v4 : (syA q3 1).2 = 0
  n4 : q4.length ≤ 1000
  c5 : crA [] q4 = q5
  r5 : rdL q5 1 4 = lB
  e5 : rdE q5 1 4 = 0
  k0 : lenN q5 0 = 4
  k2 : lenN q5 2 = 0
  pA : pgB sA = lA
  pB : pgB sB = lB
  fA : lA = 7 :: List.replicate 127 7
  fB : lB = 8 :: List.replicate 127 8
  fZ : lZ = 0 :: List.replicate 127 0
theorem Bk.first {w : World} {T : Tg} {g : Nat} {t : TypeId} {f : UInt8} {l : List UInt8} (h : Bk w T g t ((f :: l).map byteV).toArray) : w.cell? ⟨g, 0, none⟩ = some (.int .u8 (f.toNat : Int)) := by
  rw [h.has.cell]
  simp [byteV]

end Go.Proofs.YthcjledpjlpfaaaDoor
end

section
namespace Go.Proofs.YthcjledpjlpfaaaDoor
open Go.RowKit
set_option linter.unusedVariables false

structure Sx where
  s : St
  ka : Option Addr
  kn : Nat
  kc : Nat
def Sx.kv (x : Sx) : Value := .slice x.ka x.kn x.kc
structure StepsA (w : World) (A : Option Addr) (n : Nat) (l : List Sx) : Prop where
  len : n = l.length
  cells : 0 < n → ∃ b off, A = some ⟨b, off, none⟩ ∧ b < w.heap.size ∧ ∀ i x, l[i]? = some x →
    w.cell? ⟨b, off + i * 6, none⟩ = some (.int .i64 x.s.kind) ∧ w.cell? ⟨b, off + i * 6 + 1, none⟩ = some (.int .i64 x.s.region) ∧ w.cell? ⟨b, off + i * 6 + 2, none⟩ = some (.int .i64 x.s.page) ∧
    w.cell? ⟨b, off + i * 6 + 3, none⟩ = some (.int .u8 (x.s.fill.toNat : Int)) ∧ w.cell? ⟨b, off + i * 6 + 4, none⟩ = some (.bool x.s.short) ∧ w.cell? ⟨b, off + i * 6 + 5, none⟩ = some (.slice x.ka x.kn x.kc)
  keep : ∀ x ∈ l, x.kn ≤ x.kc ∧ x.kc ≤ maxLen ∧ x.s.page ≤ 9223372036854775807 ∧ x.kn = x.s.keep.length ∧ Reads w x.ka (x.s.keep.map txtV) ∧ (∀ s ∈ x.s.keep, s.length ≤ 9223372036854775807) ∧ (0 < x.kn → ∀ a, x.ka = some a → a.block < w.heap.size)
theorem StepsA.below {w w' : World} {A : Option Addr} {n : Nat} {l : List Sx} (h : StepsA w A n l) (hb : Below w.heap.size w w') : StepsA w' A n l :=
  ⟨h.len, fun hn => by
    obtain ⟨b, off, hA, hlt, hc⟩ := h.cells hn
    refine ⟨b, off, hA, Nat.lt_of_lt_of_le hlt hb.size, fun i x hi => ?_⟩
    obtain ⟨c0, c1, c2, c3, c4, c5⟩ := hc i x hi
    have q := fun j => hb.cell (p := ⟨b, j, none⟩) hlt
    exact ⟨(q _).trans c0, (q _).trans c1, (q _).trans c2, (q _).trans c3, (q _).trans c4, (q _).trans c5⟩, fun x hx => by
    obtain ⟨h1, h2, h3, h4, h5, h6, h7⟩ := h.keep x hx
    exact ⟨h1, h2, h3, h4, h5.below hb (fun hp a ha => h7 (by rw [h4]; simpa using hp) a ha), h6, fun hp a ha => Nat.lt_of_lt_of_le (h7 hp a ha) hb.size⟩⟩
theorem StepsA.at_ {w w' : World} {A : Option Addr} {n : Nat} {l : List Sx} (h : StepsA w A n l) (hb : Below w.heap.size w w') {k : Nat} (hk : k < n) :
    ∃ x b off, l[k]? = some x ∧ A = some ⟨b, off, none⟩ ∧ b < w.heap.size ∧ w'.cell? ⟨b, off + k * 6, none⟩ = some (.int .i64 x.s.kind) ∧ w'.cell? ⟨b, off + k * 6 + 1, none⟩ = some (.int .i64 x.s.region) ∧ w'.cell? ⟨b, off + k * 6 + 2, none⟩ = some (.int .i64 x.s.page) ∧
    w'.cell? ⟨b, off + k * 6 + 3, none⟩ = some (.int .u8 (x.s.fill.toNat : Int)) ∧ w'.cell? ⟨b, off + k * 6 + 4, none⟩ = some (.bool x.s.short) ∧ w'.cell? ⟨b, off + k * 6 + 5, none⟩ = some (.slice x.ka x.kn x.kc) := by
  obtain ⟨x, hx⟩ : ∃ q, l[k]? = some q := ⟨_, List.getElem?_eq_getElem (by have := h.len; omega)⟩
  obtain ⟨b, off, hA, hlt, hc⟩ := h.cells (by omega)
  obtain ⟨c0, c1, c2, c3, c4, c5⟩ := hc k x hx
  have q := fun j => hb.cell (p := ⟨b, j, none⟩) hlt
  exact ⟨x, b, off, hx, hA, hlt, (q _).trans c0, (q _).trans c1, (q _).trans c2, (q _).trans c3, (q _).trans c4, (q _).trans c5⟩
def smB (l : List Sx) : Bool := l.all (fun x => decide (x.s.keep.length ≤ 8)) && decide (l.length ≤ 40)
/-! ### More of disks -/
theorem str_reads {w : World} {n c : Nat} {A : Option Addr} {l : List UInt8} (hn : n = l.length) (h : Reads w A (l.map byteV)) : (convert 32 9 (.slice A n c)).run Tryd.prog w = .ok (.string ⟨l.toArray⟩) w :=
  run_string_of w 32 9 5 Tryd.underlying32 Tryd.underlying5 Tryd.underlying9 hn h
section
variable {w0 w w' : World} {T : Tg} {d D A N : Nat} {rs : List Rg}
theorem Dk.marked (h : Dk w T d D A rs) (hk : ∀ x t, T x = some t → w'.heap[x]? = w.heap[x]?) : Dk w' T d D A rs := by
  obtain ⟨cs, hA, hs⟩ := h.blk
  refine ⟨(hk D _ h.td).trans h.hd, h.td, h.ta, ⟨cs, (hk A _ h.ta).trans hA, hs⟩, fun i r hr => ?_⟩
  obtain ⟨m1, m2, v, ha⟩ := h.at_ i r hr
  exact ⟨m1, m2, v, ha.keep (fun j _ => cell_heap (hk A _ h.ta)) (fun x j _ hT hlt => ⟨hk x _ hT, rfl⟩) rfl⟩
theorem Dz.away (h : Dz w0 w T d D A N rs) {p : Addr} (hp : T p.block = none) (hp0 : w0.heap.size ≤ p.block) (u : Value) : Dz w0 (w.setCell p u) T d D A N rs :=
  ⟨h.dk.marked (fun x t hx => setCell_heap_other w p u x (fun e => by rw [e, hp] at hx; cases hx)), fun x t hx => by rw [setCell_hsize]; exact h.lo x t hx, h.bel.setCell hp0 u, h.few⟩
end
theorem Bk.reads {w : World} {T : Tg} {g : Nat} {t : TypeId} {l : List UInt8} (h : Bk w T g t (l.map byteV).toArray) : Reads w (some ⟨g, 0, none⟩) (l.map byteV) := fun _ => ⟨g, 0, rfl, fun j u hj => by rw [h.has.cell, Nat.zero_add]; simpa using hj⟩

end Go.Proofs.YthcjledpjlpfaaaDoor
end

section
namespace Go.Proofs.YthcjledpjlpfaaaDoor
open Go.RowKit
set_option linter.unusedVariables false

def mayB (s : St) : Bool := decide (s.region = 0) && (decide (0 ≤ s.page) && decide (s.page < 4)) && !s.short
structure Rf (r : Rg) (n a : Nat) : Prop where
  size : r.size = 4
  down : r.down = decide (a < n)
  left : n ≤ a → r.left = (a : Int) - n
  loose : r.loose.length = min n a
structure Sbox (w : World) (g : Nat) (x : Sx) : Prop where
  c0 : w.cell? ⟨g, 0, none⟩ = some (.int .i64 x.s.kind)
  c1 : w.cell? ⟨g, 1, none⟩ = some (.int .i64 x.s.region)
  c2 : w.cell? ⟨g, 2, none⟩ = some (.int .i64 x.s.page)
  c3 : w.cell? ⟨g, 3, none⟩ = some (.int .u8 (x.s.fill.toNat : Int))
  c4 : w.cell? ⟨g, 4, none⟩ = some (.bool x.s.short)
  c5 : w.cell? ⟨g, 5, none⟩ = some (.slice x.ka x.kn x.kc)
def Sx.cells (x : Sx) : Array Value := #[.int .i64 x.s.kind, .int .i64 x.s.region, .int .i64 x.s.page, .int .u8 (x.s.fill.toNat : Int), .bool x.s.short, .slice x.ka x.kn x.kc]
theorem Sbox.of {w : World} {g : Nat} {x : Sx} {t : TypeId} (h : Has w g t x.cells) : Sbox w g x :=
  ⟨h.cell 0, h.cell 1, h.cell 2, h.cell 3, h.cell 4, h.cell 5⟩
theorem Dz.drew {w0 w : World} {T : Tg} {d D A N : Nat} {rs : List Rg} (h : Dz w0 w T d D A N rs) : Dz w0 w.drew T d D A N rs := h.below ⟨rfl, rfl, rfl, Nat.le_refl _, fun _ _ => rfl⟩

end Go.Proofs.YthcjledpjlpfaaaDoor
end

section
namespace Go.Proofs.YthcjledpjlpfaaaDoor
open Go.RowKit
set_option linter.unusedVariables false

structure Sy (rs : List Rg) : Prop where
  len : rs.length = 2
  each : ∀ r ∈ rs, r.size = 4 ∧ r.down = false ∧ r.left = -1
theorem cntR_never {r : Rg} (h : r.left = -1) : cntR r = r := by
  unfold cntR
  rw [if_neg (by omega), if_neg (by omega)]
theorem Sy.wr {rs : List Rg} (h : Sy rs) (x p : Int) (l : List UInt8) : Sy (wrA rs x p l).1 := by
  refine ⟨by rw [set_len_wrA]; exact h.len, ?_⟩
  unfold wrA
  split
  · exact h.each
  · rename_i r hr
    obtain ⟨e1, e2, e3⟩ := h.each r (List.mem_of_getElem? (regN_some hr).2.2)
    rw [cntR_never e3]
    split
    · exact h.each
    · split
      · split
        · intro q hq
          rcases List.mem_or_eq_of_mem_set hq with hq | rfl
          · exact h.each q hq
          · exact ⟨e1, e2, e3⟩
        · exact h.each
      · exact h.each
def ff6 : List UInt8 := [255, 255, 255, 255, 255, 255]
end Go.Proofs.YthcjledpjlpfaaaDoor
end

section
namespace Go.Proofs.YthcjledpjlpfaaaDoor
open Go.RowKit
set_option linter.unusedVariables false

theorem Reads.zint {w : World} {A : Option Addr} {l : List Int} (h : Reads w A (l.map (Value.int .i64))) {i : Nat} (hi : i < l.length) :
    ∃ g off, A = some ⟨g, off, none⟩ ∧ w.cell? ⟨g, off + i, none⟩ = some (.int .i64 l[i]) := by
  obtain ⟨g, off, hA, hc⟩ := h (by simpa using Nat.lt_of_le_of_lt (Nat.zero_le _) hi)
  exact ⟨g, off, hA, hc _ _ (by simp [hi])⟩
set_option maxHeartbeats 1000000 in
theorem r3Ints_z (l : List Int) (A B : Option Addr) (n c c' : Nat) (w : World) (hn : n = l.length) (ha : Reads w A (l.map (Value.int .i64))) (hb : Reads w B (l.map (Value.int .i64))) (hl : n ≤ 1000000) :
    Calls Tryd.prog 22 #[.slice A n c, .slice B n c'] w fun e w' => e = .returned (.bool true) ∧ Below w.heap.size w w' := by
  have HN := Lib.hid hn
  have HA := Lib.hid ha
  have HB := Lib.hid hb
  clear hn ha hb
  go_enter Tryd.func22, Tryd.ntmps22
  go_wp2
  go_loopw [5] (fun i wr => ∃ k : Nat, k ≤ n ∧ i = .int .i64 k ∧ Below w.heap.size w wr) (fun i _ => n - (intOf i).toNat)
  case atStart => exact ⟨0, Nat.zero_le _, rfl, Below.refl _ _⟩
  case round =>
    obtain ⟨k, hk, rfl, hB⟩ := hrel
    have BW := Lib.hid hB
    clear hB
    by_cases hlt : k < n
    · have hkl : k < l.length := by have := HN.out; omega
      obtain ⟨g1, o1, rfl, c1⟩ := (HA.out.keep_ BW.out).zint hkl
      obtain ⟨g2, o2, rfl, c2⟩ := (HB.out.keep_ BW.out).zint hkl
      generalize l[k] = x at c1 c2
      have i0 : (0 : Int) ≤ (k : Int) := by omega
      have i1 : (k : Int) < (n : Int) := by omega
      clear hkl
      go_wp2
      go_region
      all_goals
        go_wp2
        go_roundw
        case rel => exact ⟨k + 1, by omega, by go_num, BW.out.drew⟩
        case measure => simp [intOf]; omega
    · obtain rfl : k = n := by omega
      obtain ⟨w3, hw3⟩ : ∃ w3 : World, w3 = wr := ⟨_, rfl⟩
      subst hw3
      go_wp2
      go_ret
      exact ⟨rfl, BW.out⟩

end Go.Proofs.YthcjledpjlpfaaaDoor
end

section
namespace Go.Proofs.YthcjledpjlpfaaaDoor
open Go.RowKit
set_option linter.unusedVariables false

def pgs (b : UInt8) : List UInt8 := List.replicate 128 b
def wsF : Nat → List UInt8 → List Wr
  | _, [] => []
  | o, b :: l => ((o : Int), pgs b) :: wsF (o + 1) l
def R30 (f : Int → Option (List UInt8)) (lo : List Wr) : Rg := ⟨30, f, lo, -1, false⟩
def wasB (fl : List UInt8) (k : Nat) : UInt8 := fl.getD k 0
def nowB (fl mo : List UInt8) (k : Nat) : UInt8 := if k < mo.length then mo.getD k 0 else wasB fl k
def gotB (fl mo ks : List UInt8) (k : Nat) : UInt8 := if bitS ks k then nowB fl mo k else wasB fl k
def ff4 : List UInt8 := [255, 255, 255, 255]
end Go.Proofs.YthcjledpjlpfaaaDoor
end

section
namespace Go.Proofs.YthcjledpjlpfaaaDoor
open Go.RowKit
set_option linter.unusedVariables false

def othA (rs : List Rg) (s : St) : List Rg :=
  if s.kind = 0 then (wrA rs s.region s.page (pgB s)).1 else if s.kind = 1 then (syA rs s.region).1 else if s.kind = 2 then stA rs s.region s.page else rs
def kpN (ks : List (List UInt8)) (k : Nat) : List (List UInt8) := ks.mapIdx fun r s => if r = k then s else [255, 255]
section
variable {w0 w : World} {T : Tg} {d D A N : Nat} {rs : List Rg}
end

end Go.Proofs.YthcjledpjlpfaaaDoor
end
