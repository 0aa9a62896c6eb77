import Derived.Test.YtnponjdnjkegmaaDoorJ02
import Derived.Deep.RegionHeld
import Derived.BigQuiet
import Derived.Deep.Slices
import Derived.SliceStrings
import Derived.Test.YtnponjdnjkegmaaDoorJ01
import Derived.Test.YtnponjdnjkegmaaDoorJ00
/- Of a claim's texts, joined: Cea Argz Lay7 Ocn Backm Nem Refa. No statement but in the last. -/
section
namespace Go.Proofs.YtnponjdnjkegmaaDoor
open Go.RowKit
set_option linter.unusedVariables false

structure Hd where
  a : Option Addr
  n : Nat
  c : Nat
  l : List UInt8
def Hd.v (h : Hd) : Value := .slice h.a h.n h.c
structure CellsA (w : World) (A : Option Addr) (n c : Nat) (q : List Hd) : Prop where
  len : n = q.length
  reads : Reads w A (q.map Hd.v)
  each : ∀ h ∈ q, Arg w h.a h.n h.c h.l
  room : n ≤ c
  most : c ≤ maxLen
  nil : A = none → c = 0
def lq (q : List Hd) : List (List UInt8) := q.map Hd.l
theorem CellsA.below {w w' : World} {A : Option Addr} {n c : Nat} {q : List Hd} (h : CellsA w A n c q) (hb : Below w.heap.size w w') : CellsA w' A n c q :=
  ⟨h.len, h.reads.keep_ hb, fun x hx => (h.each x hx).below hb, h.room, h.most, h.nil⟩
theorem CellsA.at {w : World} {A : Option Addr} {n c : Nat} {q : List Hd} (h : CellsA w A n c q) {k : Nat} (hk : k < q.length) :
    ∃ g off, A = some ⟨g, off, none⟩ ∧ w.cell? ⟨g, off + k, none⟩ = some (.slice (q[k]).a (q[k]).n (q[k]).c) := by
  obtain ⟨g, off, hA, hc⟩ := h.reads (by simp; omega)
  exact ⟨g, off, hA, hc k _ (by simp [List.getElem?_eq_getElem hk, Hd.v])⟩
theorem CellsA.hdr {w : World} {A : Option Addr} {n c : Nat} {q : List Hd} (h : CellsA w A n c q) {k : Nat} (hk : k < q.length) : Arg w (q[k]).a (q[k]).n (q[k]).c (q[k]).l := h.each _ (List.getElem_mem hk)
theorem lq_len (q : List Hd) : (lq q).length = q.length := by simp [lq]
theorem lq_at (q : List Hd) {k : Nat} (hk : k < q.length) : (lq q)[k]? = some (q[k]).l := by simp [lq, hk]
theorem CellsA.none_ (w : World) : CellsA w none 0 0 [] := ⟨rfl, Reads.empty, fun x hx => (by cases hx), Nat.le_refl _, Nat.zero_le _, fun _ => rfl⟩
def Few (q : List Hd) : Prop := q.length ≤ 1000 ∧ ∀ x ∈ q, x.l.length ≤ 1000
theorem Few.size {q : List Hd} (h : Few q) : cSz (lq q) ≤ 1001000 := by
  have := cSz_few (lq q) 1000 1000 (by rw [lq_len]; exact h.1) (fun c hc => by
    obtain ⟨x, hx, rfl⟩ := List.mem_map.1 hc
    exact h.2 x hx)
  omega
theorem cSz_step {q : List Hd} {k : Nat} (hk : k < q.length) : cSz ((lq q).take (k + 1)) = cSz ((lq q).take k) + ((q[k]).l.length + 1) := cSz_more (lq_at q hk)

set_option maxHeartbeats 400000 in
theorem ceSize_any (A : Option Addr) (n c : Nat) (q : List Hd) (w : World) (h : CellsA w A n c q) (hf : Few q) :
    Calls Tryd.prog 29 #[.slice A n c] w fun e w' => e = .returned (.int .i64 (cSz (lq q) : Int)) ∧ w = w' := by
  have HA := Lib.hid h
  have HF := Lib.hid hf
  have HL := Lib.hid h.len
  have hs := hf.size
  have hn : n ≤ 1000 := by rw [h.len]; exact hf.1
  clear h hf
  go_enter Tryd.func29, Tryd.ntmps29
  go_wp2
  go_loop [3, 10] (fun s i => ∃ k x : Nat, k ≤ n ∧ i = .int .i64 k ∧ s = .int .i64 x ∧ x + k = n + cSz ((lq q).take k)) (fun _ i => n - (intOf i).toNat)
  case atStart => exact ⟨0, n, Nat.zero_le _, rfl, rfl, by simp [cSz]⟩
  case round =>
    obtain ⟨k, x, hk, rfl, rfl, hx⟩ := hrel
    by_cases hlt : k < n
    · have hkl : k < q.length := by rw [← HL.out]; exact hlt
      have ht := cSz_take (lq q) (k + 1)
      have hm := cSz_step hkl
      obtain ⟨g, off, rfl, hc⟩ := HA.out.at hkl
      have hlen := (HA.out.hdr hkl).len
      have HS := Lib.hid (show x + (q[k]).n + (k + 1) = n + cSz ((lq q).take (k + 1)) by rw [hm, hlen]; omega)
      have hb : x + (q[k]).n ≤ 2000000 := by have := HS.out; omega
      clear hx ht hm hlen
      generalize q[k] = y at *
      clear hkl
      go_wp2
      go_round
      case rel => exact ⟨k + 1, x + y.n, by omega, by go_num, by go_num, HS.out⟩
      case measure => simp [intOf]; omega
    · obtain rfl : k = n := by omega
      have e : (lq q).take k = lq q := List.take_of_length_le (by rw [lq_len, ← HL.out]; exact Nat.le_refl _)
      rw [e] at hx
      obtain rfl : x = cSz (lq q) := by omega
      go_wp2
      go_ret
      exact ⟨rfl, rfl⟩

def smallB (q : List Hd) : Bool := decide (q.length ≤ 300 ∧ ∀ x ∈ q, x.l.length ≤ 300)
/-! Texts. -/
def cstV (l : List UInt8) : Value := .string ⟨l.toArray⟩
structure TxtA (w : World) (A : Option Addr) (n : Nat) (l : List (List UInt8)) : Prop where
  len : n = l.length
  reads : Reads w A (l.map cstV)
theorem TxtA.below {w w' : World} {A : Option Addr} {n : Nat} {l : List (List UInt8)} (h : TxtA w A n l) (hb : Below w.heap.size w w') : TxtA w' A n l := ⟨h.len, h.reads.keep_ hb⟩
theorem TxtA.at {w : World} {A : Option Addr} {n : Nat} {l : List (List UInt8)} (h : TxtA w A n l) {k : Nat} (hk : k < l.length) :
    ∃ g off, A = some ⟨g, off, none⟩ ∧ w.cell? ⟨g, off + k, none⟩ = some (.string ⟨(l[k]).toArray⟩) := by
  obtain ⟨g, off, hA, hc⟩ := h.reads (by simp; omega)
  exact ⟨g, off, hA, hc k _ (by simp [List.getElem?_eq_getElem hk, cstV])⟩
theorem TxtA.of_own {w : World} {base n : Nat} {v : Value} {l : List (List UInt8)} (h : w.ownsRow base 9 1 v n (l.map cstV)) : ∃ A c, v = .slice A n c ∧ n ≤ c ∧ TxtA w A n l := by
  have hn : n = l.length := by have := h.1; simpa using this.symm
  rcases h.2 with ⟨rfl, rfl⟩ | ⟨g, cap, cur, rfl, h1, h2, h3, h4, h5, h6⟩
  · have := List.eq_nil_of_length_eq_zero hn.symm
    subst this
    exact ⟨none, 0, rfl, Nat.le_refl _, rfl, Reads.empty⟩
  · refine ⟨_, cap, rfl, h3, hn, fun hx => ⟨g, 0, rfl, fun j u hj => ?_⟩⟩
    have hjl := (List.getElem?_eq_some_iff.1 hj).1
    have : Has w g 9 cur := h2
    rw [this.cell, Nat.zero_add, ← hj, ← h6, List.getElem?_take, if_pos (by have := h.1; omega)]
    simp
def TxtEnd (w : World) (l : List (List UInt8)) (e : Ending) (w' : World) : Prop := ∃ A c, e = .returned (.slice A l.length c) ∧ TxtA w' A l.length l ∧ Below w.heap.size w w'
theorem stinfo : (Tryd.prog.info? 9).map (fun i => (i.zero, i.size, i.bytes)) = some (some (.string ByteArray.empty), 1, 16) := by kernel_rfl
theorem st_own_nil (w : World) (B : Nat) : w.ownsRow B 9 1 (.slice none 0 0) 0 [] := ⟨rfl, .inl ⟨rfl, rfl⟩⟩


theorem ceOwnBelow {w w' : World} {b : Nat} {e : TypeId} {s n : Nat} {v : Value} {xs : List Value} (h : w.ownsRow b e s v n xs) (hb : Below w.heap.size w w') : w'.ownsRow b e s v n xs :=
  h.kept (row := none) ⟨hb.os, hb.tape, hb.output, hb.size, fun k hk _ => hb.block k hk⟩ (by
    rcases v.ownBlock with _ | g
    · exact .inl rfl
    · exact .inr (by simp))
theorem wpList_append_one {P : Program} {w : World} {ops : Array Oper} {rest : List Oper} {o : Oper} {a : Act} {Q : Exit → Act → World → Prop} (hgd : o.guard = none) (s x : Operand) (t t' : TypeId)
    (ho : o.op = .call { callee := .builtin .append, args := #[s, x], argTypes := #[t, t] }) (base : Nat) (e : TypeId) (i : TypeInfo) (z : Value) (bytes : Nat) (ht : P.underlying t = some (.slice e)) (hi : P.info? e = some i) (hz : i.zero = some z)
    (hsize : i.size = 1) (hby : i.bytes = bytes) (hzs : z.cells.size = 1) (v : Value) (n : Nat) (xs : List Value) (hs : a.eval s = v) (hown : w.ownsRow base e 1 v n xs) (u : Value) (hx : a.eval x = .slice (some ⟨w.heap.size, 0, none⟩) 1 1) (hu : u.oneCell' = true)
    (hmax : (n + 1) * bytes ≤ 140737488355328) (h63 : n + 1 ≤ maxLen) (hbase : base ≤ w.heap.size)
    (h : ∀ v' w', w'.ownsRow base e 1 v' (n + 1) (xs ++ [u]) → Below base w w' → wpList P ops Q rest (a.put o.dst v') w') : wpList P ops Q (o :: rest) a (w.alloc (.cells #[u] t')) := by
  refine wpList_append_own _ hgd s x t ho base e i z 1 bytes ht hi hz hsize hby hzs (by decide) v n xs hs (hown.alloc _) ⟨w.heap.size, 0, none⟩ 1 1 [u] hx rfl (fun j y hj => ?_) (fun y hy => ?_) (by omega) (by omega) (by simp; omega) (fun v' w' h1 h2 _ => h v' w' h1 ?_)
  · rw [add_plain, (Has.made w t' #[u]).cell]
    simpa using hj
  · obtain rfl := List.mem_singleton.1 hy
    exact hu
  · exact ((Below.refl _ w).mono hbase |>.alloc hbase _).grown h2 (by simp; omega) (fun k hk => (hown.lt k hk).1)

set_option maxHeartbeats 1000000 in
theorem texts_any (A : Option Addr) (n c : Nat) (q : List Hd) (w : World) (h : CellsA w A n c q) (hf : q.length ≤ 1000000) :
    Calls Tryd.prog 14 #[.slice A n c] w (TxtEnd w (lq q)) := by
  obtain ⟨j0, hj, jz0, jz1, jz2⟩ := info_parts stinfo
  have HA := Lib.hid h
  have HL := Lib.hid h.len
  have hn : n ≤ 1000000 := by rw [h.len]; exact hf
  clear h
  go_enter Tryd.func14, Tryd.ntmps14
  go_wp2
  go_loopw [3, 4] (fun v i wr => ∃ k : Nat, k ≤ n ∧ i = .int .i64 k ∧ wr.ownsRow w.heap.size 9 1 v k (((lq q).take k).map cstV) ∧ Below w.heap.size w wr) (fun _ i _ => n - (intOf i).toNat)
  case atStart => exact ⟨0, Nat.zero_le _, rfl, st_own_nil _ _, Below.refl _ _⟩
  case round =>
    obtain ⟨k, hk, rfl, hO, hB⟩ := hrel
    have HO := Lib.hid hO
    have HB := Lib.hid hB
    clear hO hB
    by_cases hlt : k < n
    · have hkl : k < q.length := by rw [← HL.out]; exact hlt
      have HW := HA.out.below HB.out
      obtain ⟨g, off, rfl, hc⟩ := HW.at hkl
      have hd := HW.hdr hkl
      have NX : Hid (((lq q).take (k + 1)).map cstV = ((lq q).take k).map cstV ++ [cstV (q[k]).l]) := Lib.hid (by
        have h1 := lq_at q hkl
        obtain ⟨h2, h3⟩ := List.getElem?_eq_some_iff.1 h1
        rw [List.take_succ_eq_append_getElem h2, h3]
        simp)
      have hs := run_string_of (P := Tryd.prog) wr 31 9 5 Tryd.underlying31 Tryd.underlying5 Tryd.underlying9 (cap := (q[k]).c) hd.len hd.reads
      clear HW hd
      generalize q[k] = y at *
      have HCS : Hid (cstV y.l = .string ⟨y.l.toArray⟩) := Lib.hid rfl
      obtain ⟨sz, hsz⟩ : ∃ z : ByteArray, (⟨y.l.toArray⟩ : ByteArray) = z := ⟨_, rfl⟩
      rw [hsz] at hs HCS
      rw [HCS.out] at NX
      clear hkl hsz HCS
      go_wp2_with (at_builtin; refine wpList_append_one rfl _ _ 38 9 rfl w.heap.size 9 j0 _ 16 Tryd.underlying38 hj jz0 jz1 jz2 rfl _ k _ rfl HO.out (.string sz) rfl rfl ?_ ?_ ?_ ?_; (omega); (unfold maxLen; omega); (exact HB.out.size); intro v4 w4 h7 h8; have O4 := Lib.hid h7; have B4 := Lib.hid (HB.out.trans h8); clear h7 h8)
      go_roundw
      case rel => exact ⟨k + 1, by omega, by go_num, by rw [NX.out]; exact O4.out, B4.out⟩
      case measure => simp [intOf]; omega
    · obtain rfl : k = n := by omega
      obtain ⟨w3, hw3⟩ : ∃ w3 : World, w3 = wr := ⟨_, rfl⟩
      subst hw3
      have HQ := HO.out
      have hkl : k = (lq q).length := by rw [lq_len, ← HL.out]
      rw [List.take_of_length_le (Nat.le_of_eq hkl.symm)] at HQ
      obtain ⟨A2, c2, rfl, _, hT⟩ := TxtA.of_own HQ
      have HT := Lib.hid hT
      have HKL := Lib.hid hkl
      clear HQ hT hkl
      go_wp2
      go_ret
      exact ⟨A2, c2, by rw [← HKL.out]; rfl, by rw [← HKL.out]; exact HT.out, HB.out⟩

set_option maxHeartbeats 1000000 in
theorem r7Size_any (A : Option Addr) (n c : Nat) (l : List (List UInt8)) (w : World) (h : TxtA w A n l) (hs : cSz l ≤ 1001000) :
    Calls Tryd.prog 31 #[.slice A n c] w fun e w' => e = .returned (.int .i64 (cSz l : Int)) ∧ w = w' := by
  have HA := Lib.hid h
  have HL := Lib.hid h.len
  have hn : n ≤ 1001000 := by have := cSz_len l; rw [h.len]; omega
  clear h
  go_enter Tryd.func31, Tryd.ntmps31
  go_wp2
  go_loop [3, 4] (fun s i => ∃ k : Nat, k ≤ n ∧ i = .int .i64 k ∧ s = .int .i64 (cSz (l.take k) : Int)) (fun _ i => n - (intOf i).toNat)
  case atStart => exact ⟨0, Nat.zero_le _, rfl, rfl⟩
  case round =>
    obtain ⟨k, hk, rfl, rfl⟩ := hrel
    by_cases hlt : k < n
    · have hkl : k < l.length := by rw [← HL.out]; exact hlt
      have ht := cSz_take l (k + 1)
      have hm := cSz_more (List.getElem?_eq_getElem hkl)
      obtain ⟨g, off, rfl, hc⟩ := HA.out.at hkl
      generalize l[k] = y at *
      have hz : (⟨y.toArray⟩ : ByteArray).size = y.length := size_list y
      have HS := Lib.hid hm
      have hb : cSz (l.take k) + y.length + 1 ≤ 2000000 := by omega
      generalize cSz (l.take k) = x at *
      obtain ⟨sz, hsz⟩ : ∃ z : ByteArray, (⟨y.toArray⟩ : ByteArray) = z := ⟨_, rfl⟩
      rw [hsz] at hc hz
      have HZ := Lib.hid hz
      have hb2 : x + sz.size + 1 ≤ 2000000 := by omega
      clear hm ht hkl hsz hz hb
      go_wp2
      go_round
      case rel => exact ⟨k + 1, by omega, by go_num, by rw [HS.out, ← HZ.out]; go_num⟩
      case measure => simp [intOf]; omega
    · obtain rfl : k = n := by omega
      have e : l.take k = l := List.take_of_length_le (by rw [← HL.out]; exact Nat.le_refl _)
      rw [e]
      go_wp2
      go_ret
      exact ⟨rfl, rfl⟩

def sameB (l m : List (List UInt8)) : Bool := decide (l = m)
set_option maxHeartbeats 2000000 in
theorem r7Same_any (A B : Option Addr) (n c m d : Nat) (l x : List (List UInt8)) (w : World) (h : TxtA w A n l) (h' : TxtA w B m x) (hl : n ≤ 1000000) :
    Calls Tryd.prog 13 #[.slice A n c, .slice B m d] w (fun e w' => e = .returned (.bool (sameB l x)) ∧ Below w.heap.size w w') := by
  have HA := Lib.hid h
  have HB := Lib.hid h'
  have HL := Lib.hid h.len
  have HM := Lib.hid h'.len
  clear h h'
  by_cases hnm : n = m
  · subst hnm
    go_enter Tryd.func13, Tryd.ntmps13
    go_wp2
    go_loopw [5] (fun i wr => ∃ k : Nat, k ≤ n ∧ i = .int .i64 k ∧ l.take k = x.take k ∧ Below w.heap.size w wr) (fun i _ => n - (intOf i).toNat)
    case atStart => exact ⟨0, Nat.zero_le _, rfl, rfl, Below.refl _ _⟩
    case round =>
      obtain ⟨k, hk, rfl, hE, hB⟩ := hrel
      have BW := Lib.hid hB
      have HE := Lib.hid hE
      clear hB hE
      by_cases hlt : k < n
      · have hk1 : k < l.length := by rw [← HL.out]; exact hlt
        have hk2 : k < x.length := by rw [← HM.out]; exact hlt
        have NX1 := List.take_succ_eq_append_getElem hk1
        have NX2 := List.take_succ_eq_append_getElem hk2
        have g1 := List.getElem?_eq_getElem hk1
        have g2 := List.getElem?_eq_getElem hk2
        obtain ⟨a1, o1, rfl, c1⟩ := (HA.out.below BW.out).at hk1
        obtain ⟨a2, o2, rfl, c2⟩ := (HB.out.below BW.out).at hk2
        generalize l[k] = y at *
        generalize x[k] = z at *
        have NX1 := Lib.hid NX1
        have NX2 := Lib.hid NX2
        have i0 : (0 : Int) ≤ (k : Int) := by omega
        have i1 : (k : Int) < (n : Int) := by omega
        by_cases hyz : y = z
        · subst hyz
          clear hk1 hk2 g1 g2
          go_wp2
          go_region
          all_goals
            go_wp2
            go_roundw
            case rel => exact ⟨k + 1, by omega, by go_num, by rw [NX1.out, NX2.out, HE.out], BW.out.drew⟩
            case measure => simp [intOf]; omega
        · have HD : Hid (sameB l x = false) := Lib.hid (decide_eq_false (by
            rintro rfl
            rw [g1] at g2
            injection g2 with g2
            exact hyz g2))
          have hq : (y == z) = false := by simpa using hyz
          clear hk1 hk2 g1 g2
          go_wp2
          go_region
          all_goals
            go_wp2
            go_ret
            exact ⟨by rw [HD.out]; rfl, BW.out.drew⟩
      · obtain rfl : k = n := by omega
        have HD : Hid (sameB l x = true) := Lib.hid (decide_eq_true (by
          have h1 := HE.out
          rwa [List.take_of_length_le (Nat.le_of_eq HL.out.symm), List.take_of_length_le (Nat.le_of_eq HM.out.symm)] at h1))
        obtain ⟨w3, hw3⟩ : ∃ w3 : World, w3 = wr := ⟨_, rfl⟩
        subst hw3
        go_wp2
        go_ret
        exact ⟨by rw [HD.out]; rfl, BW.out⟩
  · have HD : Hid (sameB l x = false) := Lib.hid (decide_eq_false (by
      rintro rfl
      exact hnm (HL.out.trans HM.out.symm)))
    have hne : ((n : Int) == (m : Int)) = false := beq_false_of_ne (by omega)
    go_enter Tryd.func13, Tryd.ntmps13
    go_wp2
    go_ret
    exact ⟨by rw [HD.out]; rfl, Below.refl _ _⟩

end Go.Proofs.YtnponjdnjkegmaaDoor
end

section
namespace Go.Proofs.YtnponjdnjkegmaaDoor
open Go.ChangeShapes Go.WideShapes Go.ChangeAt Go.RowKit Go.Deep
set_option linter.unusedVariables false

end Go.Proofs.YtnponjdnjkegmaaDoor
end

section
namespace Go.Proofs.YtnponjdnjkegmaaDoor
open Go.ChangeShapes Go.WideShapes Go.ChangeAt Go.RowKit
set_option linter.unusedVariables false

abbrev layN : Nat := 14
abbrev layKinds : List LaidKind := [.data]
theorem base_of_laid {W : World} (h : laidMetH Tryd.prog lay W) : Tab W := tab_of_laid h

end Go.Proofs.YtnponjdnjkegmaaDoor
end

section
namespace Go.Proofs.YtnponjdnjkegmaaDoor
open Go.RowKit
set_option linter.unusedVariables false

def textB (l : List UInt8) : List UInt8 := UInt8.ofNat (l.take 255).length :: l.take 255

theorem own_num1 (w : World) (m : Nat) : (w.alloc (.cells ((numB m 1).map byteV).toArray 5)).ownsRow w.heap.size 5 1 (.slice (some ⟨w.heap.size, 0, none⟩) 1 1) 1 ((numB m 1).map byteV) :=
  ⟨by simp [numB_len], .inr ⟨w.heap.size, 1, _, rfl, Nat.le_refl _, heap_alloc_new w _, Nat.le_refl _, by decide, by simp [numB_len], by rw [List.toList_toArray]; exact List.take_of_length_le (by simp [numB_len])⟩⟩
theorem fresh_text {W : Nat} {w w1 w' : World} {v : Value} {m k : Nat} {t : ByteArray} {l : List UInt8} (hown : w'.ownsRow W 5 1 v (1 + k) ((numB m 1).map byteV ++ Lib.strCells t)) (ht : t.data.toList = l) (hk : k = l.length) (hm : m = l.length) (hm2 : m ≤ 255)
    (hb : Below W w w1) (hg : w1.grownBy w' (some W)) (hW : W ≤ w1.heap.size) : Fresh W (UInt8.ofNat l.length :: l) w (.returned v) w' := by
  subst hm
  have e : (numB l.length 1).map byteV ++ Lib.strCells t = (UInt8.ofNat l.length :: l).map byteV := by
    rw [num_one _ hm2, Lib.strCells, ht]
    rfl
  rw [e, hk, Nat.add_comm] at hown
  exact fresh_of hown hb hg hW

set_option maxHeartbeats 400000 in
theorem Text_any (s : ByteArray) (w : World) (hs : s.size ≤ 3000) :
    Calls Tryd.prog 26 #[.string s] w (Fresh w.heap.size (textB s.data.toList) w) := by
  obtain ⟨i0, hi, hz0, hz1, hz2⟩ := info_parts u8info
  have hsz : s.size = s.data.toList.length := rfl
  have HZ := Lib.hid hsz
  clear hsz
  by_cases hb : s.size ≤ 255
  · go_enter Tryd.func26, Tryd.ntmps26
    go_wp2_with (first | (go_at_call 41; refine (Num_yes s.size 1 _ (by omega) (by omega) (by omega)).mono ?_; rintro e w' ⟨rfl, rfl⟩) | (at_builtin; refine Lib.wpList_append_own_string _ rfl _ _ 31 9 rfl w.heap.size 5 i0 Tryd.underlying31 Tryd.underlying9 hi hz0 hz1 hz2 _ _ _ rfl (own_num1 w s.size) _ rfl (by unfold maxLen; omega) (by omega) (by simp) ?_; intro v' w1 hown hgrow hnil; have HO := Lib.hid hown; have HG := Lib.hid hgrow; clear hown hgrow hnil))
    go_ret
    have HT : textB s.data.toList = UInt8.ofNat s.data.toList.length :: s.data.toList := by
      unfold textB
      rw [List.take_of_length_le (by have := HZ.out; omega)]
    rw [HT]
    exact fresh_text HO.out rfl HZ.out HZ.out hb ((Below.refl _ w).alloc (Nat.le_refl _) _) HG.out (by simp)
  · have hE : (s.extract 0 255).data.toList = s.data.toList.take 255 := by simp [ByteArray.data_extract]
    have hE2 : (s.extract 0 255).size = (s.data.toList.take 255).length := by rw [← hE]; rfl
    have hm : min 255 s.size = (s.data.toList.take 255).length := by rw [List.length_take, ← HZ.out]
    have hm2 : min 255 s.size ≤ 255 := Nat.min_le_left _ _
    have h3 : (s.extract 0 255).size ≤ 255 := by rw [hE2]; simp; omega
    have H1 := Lib.hid hE
    have H2 := Lib.hid hE2
    have H3 := Lib.hid hm
    clear hE hE2 hm
    go_enter Tryd.func26, Tryd.ntmps26
    go_wp2_with (first | (go_at_call 41; refine (Num_yes (min 255 s.size) 1 _ (by omega) (by omega) (by omega)).mono ?_; rintro e w' ⟨rfl, rfl⟩) | (at_builtin; refine Lib.wpList_append_own_string _ rfl _ _ 31 9 rfl w.heap.size 5 i0 Tryd.underlying31 Tryd.underlying9 hi hz0 hz1 hz2 _ _ _ rfl (own_num1 w (min 255 s.size)) (s.extract 0 255) rfl (by unfold maxLen; omega) (by omega) (by simp) ?_; intro v' w1 hown hgrow hnil; have HO := Lib.hid hown; have HG := Lib.hid hgrow; clear hown hgrow hnil))
    go_ret
    exact fresh_text HO.out H1.out H2.out H3.out hm2 ((Below.refl _ w).alloc (Nat.le_refl _) _) HG.out (by simp)

def Short (W : Nat) (s : ByteArray) (w : World) (e : Ending) (w' : World) : Prop :=
  ∃ A c, e = .returned (.slice A (s.size + 1) c) ∧ s.size + 1 ≤ c ∧ Row w' 5 W A ((UInt8.ofNat s.size :: s.data.toList).map byteV) ∧ Below W w w'
end Go.Proofs.YtnponjdnjkegmaaDoor
end

section
namespace Go.Proofs.YtnponjdnjkegmaaDoor
open Go.RowKit
set_option linter.unusedVariables false

theorem foldl_num (l : List UInt8) : ∀ x : Nat, l.foldl (fun x c => x * 256 + c.toNat) x = x * 256 ^ l.length + numOf l := by
  unfold numOf
  induction l with
  | nil => intro x; simp
  | cons c l ih =>
    intro x
    rw [List.foldl_cons, List.foldl_cons, ih, ih (0 * 256 + c.toNat), List.length_cons, Nat.pow_succ]
    simp only [Nat.zero_mul, Nat.zero_add, Nat.add_mul]
    rw [Nat.mul_comm (256 ^ l.length) 256, Nat.mul_assoc, Nat.add_assoc]
theorem numOf_cons (c : UInt8) (l : List UInt8) : numOf (c :: l) = c.toNat * 256 ^ l.length + numOf l := by
  have h := foldl_num (c :: l) 0
  have h2 := foldl_num l (0 * 256 + c.toNat)
  unfold numOf at *
  rw [List.foldl_cons, h2]
  simp
theorem numOf_numB (x n : Nat) : numOf (numB x n) = x % 256 ^ n := by
  induction n with
  | zero => simp [numB, numOf, Nat.mod_one]
  | succ n ih =>
    rw [numB_succ, numOf_cons, ih, numB_len, Nat.pow_succ, Nat.mod_mul]
    simp
    rw [Nat.mul_comm, Nat.add_comm]

theorem stN_put (x n : Nat) (r : List UInt8) (h1 : 1 ≤ n) (h8 : n ≤ 8) (hx : x < 256 ^ n) : stN (numB x n ++ r) 0 (n : Int) = (x, r, 0) := by
  have h2 : ¬ ((n : Int) < 1 ∨ 8 < (n : Int)) := by omega
  have h3 : ¬ (((numB x n ++ r).length : Nat) : Int) < (n : Int) := by simp [numB_len]; omega
  unfold stN
  rw [if_neg (by simp), if_neg h2, if_neg h3, Int.toNat_natCast]
  have ht : (numB x n ++ r).take n = numB x n := by rw [List.take_append_of_le_length (by rw [numB_len]; omega), List.take_of_length_le (by rw [numB_len]; omega)]
  have hd : (numB x n ++ r).drop n = r := by
    have := List.drop_left (l₁ := numB x n) (l₂ := r)
    rwa [numB_len] at this
  rw [ht, hd, numOf_numB, Nat.mod_eq_of_lt hx]

def textS (t : List UInt8) : List UInt8 := UInt8.ofNat t.length :: t
theorem stN_len1 (c : UInt8) (r : List UInt8) : stN (c :: r) 0 1 = (c.toNat, r, 0) := by
  unfold stN
  rw [if_neg (by simp), if_neg (by omega), if_neg (by simp; omega)]
  simp [numOf]
theorem ofNat_toNat (n : Nat) (h : n ≤ 255) : (UInt8.ofNat n).toNat = n := by simp; omega
def enc (ps : List (Nat × Nat)) : List UInt8 := ps.flatMap fun p => numB p.1 p.2
end Go.Proofs.YtnponjdnjkegmaaDoor
end

section
namespace Go.Proofs.YtnponjdnjkegmaaDoor
open Go.RowKit
set_option linter.unusedVariables false

structure En where
  k : List UInt8
  d : List UInt8
  far : Bool
  sz : Int
  pg : Int
def u64N (x : Int) : Nat := (x % 18446744073709551616).toNat
theorem u64N_lt (x : Int) : u64N x < 18446744073709551616 := by unfold u64N; omega
def putE (leaf : Bool) (e : En) : List UInt8 :=
  if leaf then (if e.far then 1 :: (numB (u64N e.sz) 2 ++ numB (u64N e.pg) 2) else 0 :: e.d) else numB (u64N e.pg) 2
def cellE (leaf : Bool) (e : En) : List UInt8 := textB e.k ++ putE leaf e
def cellsE (leaf : Bool) (l : List En) : List (List UInt8) := l.map (cellE leaf)
theorem textB_len (l : List UInt8) : (textB l).length = 1 + min l.length 255 := by
  unfold textB
  rw [List.length_cons, List.length_take, Nat.min_comm, Nat.add_comm]
theorem putE_len (leaf : Bool) (e : En) : (putE leaf e).length = if leaf then (if e.far then 5 else 1 + e.d.length) else 2 := by
  unfold putE
  cases leaf
  · simp [numB_len]
  · cases e.far <;> simp [numB_len]; omega
theorem cellE_len (leaf : Bool) (e : En) : (cellE leaf e).length = 1 + min e.k.length 255 + (if leaf then (if e.far then 5 else 1 + e.d.length) else 2) := by
  rw [cellE, List.length_append, textB_len, putE_len]
theorem cellE_few (leaf : Bool) (e : En) (h : e.d.length ≤ 300) : (cellE leaf e).length ≤ 600 := by
  rw [cellE_len]
  have := Nat.min_le_right e.k.length 255
  split
  · split <;> omega
  · omega

/-! May a node be? -/
def okV (leaf : Bool) (e : En) : Prop :=
  if leaf then (e.far = false ∧ e.d.length ≤ 16 ∧ e.sz = 0 ∧ e.pg = 0) ∨ (e.far = true ∧ e.d = [] ∧ 16 < e.sz ∧ e.sz ≤ 400 ∧ 2 ≤ e.pg ∧ e.pg ≤ 999)
  else e.far = false ∧ e.d = [] ∧ e.sz = 0 ∧ 2 ≤ e.pg ∧ e.pg ≤ 999
instance (leaf : Bool) (e : En) : Decidable (okV leaf e) := by unfold okV; infer_instance
def en0 : En := ⟨[], [], false, 0, 0⟩
def aheadK (l : List En) (i : Nat) : List UInt8 := if i = 0 then [] else (l.getD (i - 1) en0).k
def leK (a b : List UInt8) : Bool := Op.bytesLess a b || a == b
theorem leK_nil (a : List UInt8) : leK [] a = true := by
  cases a
  · rfl
  · simp [leK, Op.bytesLess]
def riseAt (l : List En) (i : Nat) : Prop := leK (l.getD i en0).k (aheadK l i) = false ∧ (l.getD i en0).k.length ≤ 16
instance (l : List En) (i : Nat) : Decidable (riseAt l i) := by unfold riseAt; infer_instance
def keyAt (leaf : Bool) (l : List En) (i : Nat) : Prop := if leaf = false ∧ i = 0 then (l.getD i en0).k = [] else riseAt l i
instance (leaf : Bool) (l : List En) (i : Nat) : Decidable (keyAt leaf l i) := by unfold keyAt; infer_instance
def leastN (leaf : Bool) : Nat := if leaf then 1 else 2
def shapeN (leaf : Bool) (l : List En) : Prop := leastN leaf ≤ l.length ∧ (∀ i, i < l.length → keyAt leaf l i) ∧ ∀ e ∈ l, okV leaf e
def checkN (leaf : Bool) (l : List En) : Prop := shapeN leaf l ∧ cSz (cellsE leaf l) ≤ 122
instance (leaf : Bool) (l : List En) : Decidable (shapeN leaf l) := by unfold shapeN; infer_instance
instance (leaf : Bool) (l : List En) : Decidable (checkN leaf l) := by unfold checkN; infer_instance
def kindN (leaf : Bool) : UInt8 := if leaf then 1 else 2
theorem kindN_ne (leaf : Bool) : kindN leaf ≠ 0 := by cases leaf <;> decide
theorem checkN_fits {leaf : Bool} {l : List En} (h : checkN leaf l) : cFits (kindN leaf) (cellsE leaf l) := ⟨kindN_ne leaf, h.2⟩
theorem keyAt_short {leaf : Bool} {l : List En} {i : Nat} (h : keyAt leaf l i) : (l.getD i en0).k.length ≤ 16 := by
  unfold keyAt at h
  split at h
  · rw [h]; simp
  · exact h.2
theorem keys_short {leaf : Bool} {l : List En} (h : ∀ i, i < l.length → keyAt leaf l i) : ∀ e ∈ l, e.k.length ≤ 16 := by
  intro e he
  obtain ⟨i, hi, rfl⟩ := List.getElem_of_mem he
  have := keyAt_short (h i hi)
  rwa [List.getD_eq_getElem?_getD, List.getElem?_eq_getElem hi] at this

/-! What is read of a cell. -/
def readE (leaf : Bool) (c : List UInt8) : En :=
  let a := stT c 0
  if leaf then
    let m := stN a.2.1 a.2.2 1
    if m.1 = 0 then ⟨a.1, (stS m.2.1 m.2.2 m.2.1.length).1, false, 0, 0⟩
    else let s := stN m.2.1 m.2.2 2; let p := stN s.2.1 s.2.2 2; ⟨a.1, [], true, (s.1 : Int), (p.1 : Int)⟩
  else let p := stN a.2.1 a.2.2 2; ⟨a.1, [], false, 0, (p.1 : Int)⟩
def oneE (leaf : Bool) (c : List UInt8) : En × Bool :=
  let a := stT c 0
  if leaf then
    let m := stN a.2.1 a.2.2 1
    if m.1 = 1 then let s := stN m.2.1 m.2.2 2; let p := stN s.2.1 s.2.2 2; (⟨a.1, [], true, (s.1 : Int), (p.1 : Int)⟩, decide (dn p.2.1 p.2.2 = 0))
    else let r := stS m.2.1 m.2.2 m.2.1.length; (⟨a.1, r.1, false, 0, 0⟩, decide (r.2.2 = 0) && decide (m.1 = 0))
  else let p := stN a.2.1 a.2.2 2; (⟨a.1, [], false, 0, (p.1 : Int)⟩, decide (dn p.2.1 p.2.2 = 0))

theorem stN_bad (l : List UInt8) (er size : Int) (h : er ≠ 0) : stN l er size = (0, l, er) := by unfold stN; rw [if_pos h]
theorem stS_bad (l : List UInt8) (er : Int) (n : Nat) (h : er ≠ 0) : stS l er n = ([], l, er) := by unfold stS; rw [if_pos h]
theorem stN_two (a b : UInt8) (l : List UInt8) : stN (a :: b :: l) 0 2 = (a.toNat * 256 + b.toNat, l, 0) := by
  unfold stN
  rw [if_neg (by simp), if_neg (by omega), if_neg (by simp; omega)]
  simp [numOf]
theorem stN_less (l : List UInt8) (n : Int) (h1 : 1 ≤ n) (h8 : n ≤ 8) (h : (l.length : Int) < n) : stN l 0 n = (0, l, 10) := by
  unfold stN
  rw [if_neg (by simp), if_neg (by omega), if_pos h]
theorem numB_two (a b : UInt8) : numB (u64N ((a.toNat * 256 + b.toNat : Nat) : Int)) 2 = [a, b] := by
  have ha := a.toNat_lt
  have hb := b.toNat_lt
  have e : u64N ((a.toNat * 256 + b.toNat : Nat) : Int) = a.toNat * 256 + b.toNat := by unfold u64N; omega
  rw [e]
  have e1 : (a.toNat * 256 + b.toNat) / 256 = a.toNat := by omega
  simp [numB, List.range_succ, e1]
theorem stT_short (c : List UInt8) (h : c = [] ∨ ∃ n r, c = n :: r ∧ r.length < n.toNat) : (stT c 0).1 = [] ∧ (stT c 0).2.2 = 10 := by
  rcases h with rfl | ⟨n, r, rfl, h⟩
  · simp [stT, stN, stS]
  · unfold stT
    rw [stN_len1]
    simp [stS, h]
theorem stT_long (n : UInt8) (r : List UInt8) (h : n.toNat ≤ r.length) : stT (n :: r) 0 = (r.take n.toNat, r.drop n.toNat, 0) := by
  unfold stT
  rw [stN_len1]
  simp [stS, Nat.not_lt.2 h]
theorem textB_take (n : UInt8) (r : List UInt8) (h : n.toNat ≤ r.length) : textB (r.take n.toNat) = n :: r.take n.toNat := by
  have hn := n.toNat_lt
  unfold textB
  rw [List.take_take, Nat.min_eq_right (by omega), List.length_take, Nat.min_eq_left h]
  simp
theorem ofText {k : List UInt8} (h : k.length ≤ 255) : textB k = textS k := by
  unfold textB textS
  rw [List.take_of_length_le h]
theorem dn_zero (l : List UInt8) (er : Int) : dn l er = 0 ↔ er = 0 ∧ l = [] := by
  unfold dn
  split
  · rename_i h; exact ⟨fun e => absurd e h, fun e => absurd e.1 h⟩
  · rename_i h
    have h0 : er = 0 := by simpa using h
    split
    · rename_i h2
      exact ⟨fun e => absurd e (by decide), fun e => by rw [e.2] at h2; exact absurd h2 (by simp)⟩
    · rename_i h2
      exact ⟨fun _ => ⟨h0, List.eq_nil_of_length_eq_zero (by omega)⟩, fun _ => rfl⟩

theorem one_iff (leaf : Bool) (c : List UInt8) : (oneE leaf c).2 = true ↔ cellE leaf (readE leaf c) = c := by
  by_cases hs : c = [] ∨ ∃ n r, c = n :: r ∧ r.length < n.toNat
  · obtain ⟨h1, h2⟩ := stT_short c hs
    have hne : ∀ t : List UInt8, (textB [] ++ t : List UInt8) ≠ c := by
      intro t e
      rcases hs with rfl | ⟨n, r, rfl, h⟩
      · simp [textB] at e
      · simp [textB] at e
        rw [← e.1] at h
        simp at h
    have h3 : (10 : Int) ≠ 0 := by decide
    constructor
    · intro h
      unfold oneE at h
      cases leaf
      · simp only [h2, stN_bad _ _ _ h3, Bool.false_eq_true, if_false, decide_eq_true_eq, dn_zero] at h
        exact absurd h.1 h3
      · simp only [h2, stN_bad _ _ _ h3, stS_bad _ _ _ h3, if_true] at h
        simp at h
    · intro h
      exfalso
      refine hne (putE leaf (readE leaf c)) ?_
      have hk : (readE leaf c).k = [] := by
        unfold readE
        cases leaf
        · simpa using h1
        · simp only [if_true]
          split <;> simpa using h1
      rw [← hk]
      exact h
  · match c with
    | [] => exact absurd (Or.inl rfl) hs
    | n :: r =>
      have hn : n.toNat ≤ r.length := Nat.le_of_not_lt fun h => hs (.inr ⟨n, r, rfl, h⟩)
      clear hs
      have e1 := stT_long n r hn
      have e2 := textB_take n r hn
      have e3 : n :: r = textB (r.take n.toNat) ++ r.drop n.toNat := by rw [e2, List.cons_append, List.take_append_drop]
      have key : ∀ e : En, e.k = r.take n.toNat → (cellE leaf e = n :: r ↔ putE leaf e = r.drop n.toNat) := by
        intro e he
        unfold cellE
        rw [he, e3]
        exact ⟨fun h => List.append_cancel_left h, fun h => by rw [h]⟩
      generalize r.drop n.toNat = q at *
      generalize r.take n.toNat = t at *
      clear e3 e2 hn
      cases leaf
      · unfold oneE
        rw [key _ (by simp [readE, e1])]
        unfold readE
        simp only [e1, Bool.false_eq_true, if_false, decide_eq_true_eq, dn_zero, putE]
        match q with
        | [] => rw [stN_less _ _ (by decide) (by decide) (by simp)]; simp [numB]
        | [a] => rw [stN_less _ _ (by decide) (by decide) (by simp)]; simp [numB, List.range_succ]
        | a :: b :: q =>
          rw [stN_two]
          simp only [numB_two]
          simp [eq_comm]
      · unfold oneE
        rw [key _ (by unfold readE; simp only [e1, if_true]; split <;> rfl)]
        unfold readE
        simp only [e1, if_true]
        match q with
        | [] =>
          rw [stN_less _ _ (by decide) (by decide) (by simp)]
          simp [putE, stS]
        | m :: q =>
          rw [stN_len1]
          by_cases hm0 : m.toNat = 0
          · obtain rfl : m = 0 := UInt8.toNat_inj.1 hm0
            simp [putE, stS]
          · by_cases hm1 : m.toNat = 1
            · obtain rfl : m = 1 := UInt8.toNat_inj.1 hm1
              simp only [show (1 : UInt8).toNat = 1 from rfl, if_true, if_neg (show ¬ (1 = 0) by decide), decide_eq_true_eq, dn_zero]
              match q with
              | [] => rw [stN_less _ _ (by decide) (by decide) (by simp), stN_bad _ _ _ (show (10 : Int) ≠ 0 by decide)]; simp [putE, numB, List.range_succ]
              | [a] => rw [stN_less _ _ (by decide) (by decide) (by simp), stN_bad _ _ _ (show (10 : Int) ≠ 0 by decide)]; simp [putE, numB, List.range_succ]
              | [a, b] => rw [stN_two, stN_less _ _ (by decide) (by decide) (by simp)]; simp [putE, numB, List.range_succ]
              | [a, b, d] => rw [stN_two, stN_less _ _ (by decide) (by decide) (by simp)]; simp [putE, numB, List.range_succ]
              | a :: b :: d :: f :: q =>
                rw [stN_two, stN_two]
                simp only [putE, if_true, numB_two]
                simp [eq_comm]
            · simp only [if_neg hm0, if_neg hm1]
              constructor
              · intro h; simp [hm0] at h
              · intro h
                exfalso
                simp only [putE, if_true, List.cons.injEq] at h
                exact hm1 (by rw [← h.1]; rfl)
theorem one_read (leaf : Bool) (c : List UInt8) (h : (oneE leaf c).2 = true) : (oneE leaf c).1 = readE leaf c := by
  unfold oneE at h ⊢
  unfold readE
  cases leaf
  · rfl
  · simp only [if_true] at h ⊢
    by_cases h1 : (stN (stT c 0).2.1 (stT c 0).2.2 1).1 = 1
    · rw [if_pos h1, if_neg (by omega)]
    · rw [if_neg h1] at h ⊢
      simp only [Bool.and_eq_true, decide_eq_true_eq] at h
      rw [if_pos h.2]
theorem read_put (leaf : Bool) (e : En) (hk : e.k.length ≤ 255) (hv : okV leaf e) : readE leaf (cellE leaf e) = e := by
  obtain ⟨k, d, far, sz, pg⟩ := e
  have hT : ∀ r, stT (textS k ++ r) 0 = (k, r, 0) := by
    intro r
    have h1 : (UInt8.ofNat k.length).toNat = k.length := ofNat_toNat _ hk
    have := stT_long (UInt8.ofNat k.length) (k ++ r) (by rw [h1, List.length_append]; omega)
    rw [h1, List.take_left, List.drop_left] at this
    exact this
  have hN : ∀ x : Int, 0 ≤ x → x ≤ 999 → ∀ r, stN (numB (u64N x) 2 ++ r) 0 2 = (x.toNat, r, 0) := by
    intro x h0 h9 r
    have e : u64N x = x.toNat := by unfold u64N; omega
    rw [e]
    exact stN_put x.toNat 2 r (by decide) (by decide) (by omega)
  unfold cellE readE
  rw [ofText hk]
  simp only [hT]
  cases leaf
  · obtain ⟨h1, h2, h3, h4, h5⟩ := hv
    simp only at h1 h2 h3 h4 h5
    subst h1 h2 h3
    have := hN pg (by omega) h5 []
    rw [List.append_nil] at this
    simp only [putE, Bool.false_eq_true, if_false, this]
    simp
    omega
  · rcases hv with ⟨h1, h2, h3, h4⟩ | ⟨h1, h2, h3, h4, h5, h6⟩
    · simp only at h1 h2 h3 h4
      subst h1 h3 h4
      simp only [putE, Bool.false_eq_true, if_false, if_true, stN_len1]
      simp [stS]
    · simp only at h1 h2 h3 h4 h5 h6
      subst h1 h2
      have e2 := hN pg (by omega) h6 []
      rw [List.append_nil] at e2
      simp only [putE, if_true, stN_len1, hN sz (by omega) (by omega), e2]
      simp
      omega

/-! A page's node. -/
def getN (b : List UInt8) : Bool × List En × Int :=
  let u := unpN b
  if u.2.2 ≠ 0 then (false, [], u.2.2)
  else if u.1 ≠ 1 ∧ u.1 ≠ 2 then (false, [], 11)
  else let leaf := decide (u.1 = 1); let l := u.2.1.map (readE leaf)
    if checkN leaf l ∧ cellsE leaf l = u.2.1 then (leaf, l, 0) else (false, [], 11)
theorem cells_read {leaf : Bool} {ls : List (List UInt8)} : cellsE leaf (ls.map (readE leaf)) = ls ↔ ∀ c ∈ ls, (oneE leaf c).2 = true := by
  induction ls with
  | nil => simp [cellsE]
  | cons c ls ih =>
    have e : cellsE leaf ((c :: ls).map (readE leaf)) = cellE leaf (readE leaf c) :: cellsE leaf (ls.map (readE leaf)) := rfl
    rw [e, List.cons.injEq, ih, ← one_iff]
    simp
theorem read_cells {leaf : Bool} {l : List En} (h : checkN leaf l) : (cellsE leaf l).map (readE leaf) = l := by
  have hk := keys_short h.1.2.1
  have hv := h.1.2.2
  unfold cellsE
  rw [List.map_map]
  conv => rhs; rw [← List.map_id l]
  refine List.map_congr_left fun e he => ?_
  exact read_put leaf e (by have := hk e he; omega) (hv e he)
theorem getN_page {leaf : Bool} {l : List En} (h : checkN leaf l) : getN (cPage (kindN leaf) (cellsE leaf l)) = (leaf, l, 0) := by
  unfold getN
  rw [unpN_page (checkN_fits h)]
  have e : decide (kindN leaf = 1) = leaf := by cases leaf <;> rfl
  have e2 : ¬ (kindN leaf ≠ 1 ∧ kindN leaf ≠ 2) := by cases leaf <;> decide
  simp only [e, read_cells h]
  rw [if_neg (by simp), if_neg e2, if_pos ⟨h, trivial⟩]
theorem aheadK_take (l : List En) (k i : Nat) (h : i < k) : aheadK (l.take k) i = aheadK l i := by
  unfold aheadK
  split
  · rfl
  · rw [List.getD_eq_getElem?_getD, List.getElem?_take, if_pos (by omega), ← List.getD_eq_getElem?_getD]
theorem keyAt_take (leaf : Bool) (l : List En) (k i : Nat) (h : i < k) : keyAt leaf (l.take k) i ↔ keyAt leaf l i := by
  have e : (l.take k).getD i en0 = l.getD i en0 := by rw [List.getD_eq_getElem?_getD, List.getElem?_take, if_pos h, ← List.getD_eq_getElem?_getD]
  unfold keyAt riseAt
  rw [aheadK_take l k i h, e]
theorem checkN_take {leaf : Bool} {l : List En} (h : checkN leaf l) (k : Nat) (hk : k ≤ l.length) : checkN leaf (l.take k) ↔ leastN leaf ≤ k := by
  have hl : (l.take k).length = k := by rw [List.length_take]; omega
  constructor
  · intro hh
    have := hh.1.1
    rwa [hl] at this
  · intro hh
    refine ⟨⟨by rw [hl]; exact hh, fun i hi => ?_, fun e he => h.1.2.2 e (List.mem_of_mem_take he)⟩, ?_⟩
    · rw [hl] at hi
      exact (keyAt_take leaf l k i hi).2 (h.1.2.1 i (by omega))
    · have := cSz_take (cellsE leaf l) k
      have e : cellsE leaf (l.take k) = (cellsE leaf l).take k := by simp [cellsE, List.map_take]
      rw [e]
      have := h.2
      omega
/-! Other orders. -/
def swapE (l : List En) (k : Nat) : List En := (l.set k (l.getD (k + 1) en0)).set (k + 1) (l.getD k en0)
def twiceE (l : List En) (k : Nat) : List En := l.take (k + 1) ++ l.drop k
end Go.Proofs.YtnponjdnjkegmaaDoor
end

section
namespace Go.Proofs.YtnponjdnjkegmaaDoor
open Go.RowKit
set_option linter.unusedVariables false

theorem str_text (m : Nat) (s : ByteArray) (hm : m = s.data.toList.length) : (⟨([UInt8.ofNat m] : List UInt8).toArray⟩ : ByteArray) ++ s = ⟨(UInt8.ofNat s.data.toList.length :: s.data.toList).toArray⟩ := by
  subst hm
  apply ByteArray.ext
  simp
theorem rText_any (s : ByteArray) (w : World) (hs : s.size ≤ 3000) :
    Calls Tryd.prog 27 #[.string s] w fun e w' => e = .returned (.string ⟨(textB s.data.toList).toArray⟩) ∧ Below w.heap.size w w' := by
  have hsz : s.size = s.data.toList.length := rfl
  have HZ := Lib.hid hsz
  clear hsz
  by_cases hb : s.size ≤ 255
  · have HT : Hid (textB s.data.toList = UInt8.ofNat s.data.toList.length :: s.data.toList) := by
      unfold textB
      rw [List.take_of_length_le (by have := HZ.out; omega)]
      exact rfl
    have hl : (numB s.size 1).length ≤ 1 := by rw [numB_len]; omega
    go_enter Tryd.func27, Tryd.ntmps27
    go_wp2_with (first | (go_at_call 28; refine (rNum_yes s.size 1 _ (by omega) (by omega) (by omega)).mono ?_; rintro e w1 ⟨rfl, h1⟩; have H1 := Lib.hid h1; clear h1))
    go_ret
    refine ⟨ret_str ?_, H1.out⟩
    rw [HT.out, num_one _ hb, str_text]
    exact HZ.out
  · have hE : (s.extract 0 255).data.toList = s.data.toList.take 255 := by simp [ByteArray.data_extract]
    have hE2 : (s.extract 0 255).size = (s.data.toList.take 255).length := by rw [← hE]; rfl
    have hm : min 255 s.size = (s.data.toList.take 255).length := by rw [List.length_take, ← HZ.out]
    have hm2 : min 255 s.size ≤ 255 := Nat.min_le_left _ _
    have h3 : (s.extract 0 255).size ≤ 255 := by rw [hE2]; simp; omega
    have hl : (numB (min 255 s.size) 1).length ≤ 1 := by rw [numB_len]; omega
    have H1 := Lib.hid hE
    have H2 := Lib.hid hE2
    have H3 := Lib.hid hm
    clear hE hE2 hm
    go_enter Tryd.func27, Tryd.ntmps27
    go_wp2_with (first | (go_at_call 28; refine (rNum_yes (min 255 s.size) 1 _ (by omega) (by omega) (by omega)).mono ?_; rintro e w1 ⟨rfl, h1⟩; have B1 := Lib.hid h1; clear h1))
    go_ret
    refine ⟨ret_str ?_, B1.out⟩
    unfold textB
    rw [num_one _ hm2, ← H1.out, str_text]
    rw [H3.out, H1.out]

end Go.Proofs.YtnponjdnjkegmaaDoor
end
