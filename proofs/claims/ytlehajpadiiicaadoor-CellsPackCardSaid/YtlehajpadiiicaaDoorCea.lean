/- Slices of slices of bytes in memory, and what Size, small, texts and the document's Size, Same come to: contracts, no statement. -/
import Derived.Test.YtlehajpadiiicaaDoorCem
import Derived.Deep.RegionHeld
import Derived.BigQuiet
namespace Go.Proofs.YtlehajpadiiicaaDoor
open Go.RowKit
set_option linter.unusedVariables false

/-- A slice of bytes: where it lies, its length, its room, and what it reads as. -/
structure Hd where
  a : Option Addr
  n : Nat
  c : Nat
  l : List UInt8
def Hd.v (h : Hd) : Value := .slice h.a h.n h.c
/-- A slice of slices of bytes. -/
structure CellsA (w : World) (A : Option Addr) (n c : Nat) (q : List Hd) : Prop where
  len : n = q.length
  reads : Reads w A (q.map Hd.v)
  each : ∀ h ∈ q, Arg w h.a h.n h.c h.l
  room : n ≤ c
  most : c ≤ maxLen
  nil : A = none → c = 0
def lq (q : List Hd) : List (List UInt8) := q.map Hd.l
theorem CellsA.below {w w' : World} {A : Option Addr} {n c : Nat} {q : List Hd} (h : CellsA w A n c q) (hb : Below w.heap.size w w') : CellsA w' A n c q :=
  ⟨h.len, h.reads.keep_ hb, fun x hx => (h.each x hx).below hb, h.room, h.most, h.nil⟩
theorem CellsA.at {w : World} {A : Option Addr} {n c : Nat} {q : List Hd} (h : CellsA w A n c q) {k : Nat} (hk : k < q.length) :
    ∃ g off, A = some ⟨g, off, none⟩ ∧ w.cell? ⟨g, off + k, none⟩ = some (.slice (q[k]).a (q[k]).n (q[k]).c) := by
  obtain ⟨g, off, hA, hc⟩ := h.reads (by simp; omega)
  exact ⟨g, off, hA, hc k _ (by simp [List.getElem?_eq_getElem hk, Hd.v])⟩
theorem CellsA.hdr {w : World} {A : Option Addr} {n c : Nat} {q : List Hd} (h : CellsA w A n c q) {k : Nat} (hk : k < q.length) : Arg w (q[k]).a (q[k]).n (q[k]).c (q[k]).l := h.each _ (List.getElem_mem hk)
theorem lq_len (q : List Hd) : (lq q).length = q.length := by simp [lq]
theorem lq_at (q : List Hd) {k : Nat} (hk : k < q.length) : (lq q)[k]? = some (q[k]).l := by simp [lq, hk]
theorem CellsA.none_ (w : World) : CellsA w none 0 0 [] := ⟨rfl, Reads.empty, fun x hx => (by cases hx), Nat.le_refl _, Nat.zero_le _, fun _ => rfl⟩
def Few (q : List Hd) : Prop := q.length ≤ 1000 ∧ ∀ x ∈ q, x.l.length ≤ 1000
theorem Few.size {q : List Hd} (h : Few q) : cSz (lq q) ≤ 1001000 := by
  have := cSz_few (lq q) 1000 1000 (by rw [lq_len]; exact h.1) (fun c hc => by
    obtain ⟨x, hx, rfl⟩ := List.mem_map.1 hc
    exact h.2 x hx)
  omega
theorem cSz_step {q : List Hd} {k : Nat} (hk : k < q.length) : cSz ((lq q).take (k + 1)) = cSz ((lq q).take k) + ((q[k]).l.length + 1) := cSz_more (lq_at q hk)

set_option maxHeartbeats 400000 in
theorem ceSize_any (A : Option Addr) (n c : Nat) (q : List Hd) (w : World) (h : CellsA w A n c q) (hf : Few q) :
    Calls Tryd.prog 13 #[.slice A n c] w fun e w' => e = .returned (.int .i64 (cSz (lq q) : Int)) ∧ w = w' := by
  have HA := Lib.hid h
  have HF := Lib.hid hf
  have HL := Lib.hid h.len
  have hs := hf.size
  have hn : n ≤ 1000 := by rw [h.len]; exact hf.1
  clear h hf
  go_enter Tryd.func13, Tryd.ntmps13
  go_wp2
  go_loop [3, 10] (fun s i => ∃ k x : Nat, k ≤ n ∧ i = .int .i64 k ∧ s = .int .i64 x ∧ x + k = n + cSz ((lq q).take k)) (fun _ i => n - (intOf i).toNat)
  case atStart => exact ⟨0, n, Nat.zero_le _, rfl, rfl, by simp [cSz]⟩
  case round =>
    obtain ⟨k, x, hk, rfl, rfl, hx⟩ := hrel
    by_cases hlt : k < n
    · have hkl : k < q.length := by rw [← HL.out]; exact hlt
      have ht := cSz_take (lq q) (k + 1)
      have hm := cSz_step hkl
      obtain ⟨g, off, rfl, hc⟩ := HA.out.at hkl
      have hlen := (HA.out.hdr hkl).len
      have HS := Lib.hid (show x + (q[k]).n + (k + 1) = n + cSz ((lq q).take (k + 1)) by rw [hm, hlen]; omega)
      have hb : x + (q[k]).n ≤ 2000000 := by have := HS.out; omega
      clear hx ht hm hlen
      generalize q[k] = y at *
      clear hkl
      go_wp2
      go_round
      case rel => exact ⟨k + 1, x + y.n, by omega, by go_num, by go_num, HS.out⟩
      case measure => simp [intOf]; omega
    · obtain rfl : k = n := by omega
      have e : (lq q).take k = lq q := List.take_of_length_le (by rw [lq_len, ← HL.out]; exact Nat.le_refl _)
      rw [e] at hx
      obtain rfl : x = cSz (lq q) := by omega
      go_wp2
      go_ret
      exact ⟨rfl, rfl⟩

def smallB (q : List Hd) : Bool := decide (q.length ≤ 300 ∧ ∀ x ∈ q, x.l.length ≤ 300)
set_option maxHeartbeats 400000 in
theorem small07_any (A : Option Addr) (n c : Nat) (q : List Hd) (w : World) (h : CellsA w A n c q) :
    Calls Tryd.prog 9 #[.slice A n c] w fun e w' => e = .returned (.bool (smallB q)) ∧ w = w' := by
  have HA := Lib.hid h
  have HL := Lib.hid h.len
  have hcm := h.most
  have hrm := h.room
  unfold maxLen at hcm
  clear h
  go_enter Tryd.func9, Tryd.ntmps9
  go_wp2
  go_loop [3] (fun i => ∃ k : Nat, k ≤ n ∧ i = .int .i64 k ∧ ∀ x ∈ q.take k, x.l.length ≤ 300) (fun i => n - (intOf i).toNat)
  case atStart => exact ⟨0, Nat.zero_le _, rfl, fun x hx => by simp at hx⟩
  case round =>
    obtain ⟨k, hk, rfl, hx⟩ := hrel
    have HX := Lib.hid hx
    clear hx
    by_cases hlt : k < n
    · have hkl : k < q.length := by rw [← HL.out]; exact hlt
      obtain ⟨g, off, rfl, hc⟩ := HA.out.at hkl
      have hlen := (HA.out.hdr hkl).len
      have hm1 := (HA.out.hdr hkl).most
      have hm2 := (HA.out.hdr hkl).room
      have hmem := List.getElem_mem hkl
      have htk := List.take_succ_eq_append_getElem hkl
      generalize q[k] = y at *
      unfold maxLen at hm1
      by_cases hy : y.n ≤ 300
      · have HT : Hid (∀ x ∈ q.take (k + 1), x.l.length ≤ 300) := Lib.hid (by
          rw [htk]
          intro x hx
          rcases List.mem_append.1 hx with h | h
          · exact HX.out x h
          · obtain rfl := List.mem_singleton.1 h
            rw [← hlen]
            exact hy)
        clear hkl hmem htk hlen
        go_wp2
        go_round
        case rel => exact ⟨k + 1, by omega, by go_num, HT.out⟩
        case measure => simp [intOf]; omega
      · have HD : Hid (smallB q = false) := Lib.hid (by
          apply decide_eq_false
          rintro ⟨_, h⟩
          have := h y hmem
          omega)
        clear hkl hmem htk hlen
        go_wp2
        go_ret
        exact ⟨by rw [HD.out]; rfl, rfl⟩
    · obtain rfl : k = n := by omega
      have HD : Hid (smallB q = decide ((k : Int) ≤ 300)) := Lib.hid (by
        have h1 := HX.out
        rw [List.take_of_length_le (by rw [← HL.out]; exact Nat.le_refl _)] at h1
        have h2 := HL.out
        by_cases h3 : k ≤ 300
        · rw [show decide ((k : Int) ≤ 300) = true from decide_eq_true (by omega)]
          exact decide_eq_true ⟨by omega, h1⟩
        · rw [show decide ((k : Int) ≤ 300) = false from decide_eq_false (by omega)]
          exact decide_eq_false (by rintro ⟨h, _⟩; omega))
      go_wp2
      go_ret
      exact ⟨by rw [HD.out]; rfl, rfl⟩

/-! Texts. -/
def cstV (l : List UInt8) : Value := .string ⟨l.toArray⟩
theorem one_cstV (l : List (List UInt8)) : ∀ u ∈ l.map cstV, u.oneCell' = true := by
  intro u hu
  obtain ⟨c, _, rfl⟩ := List.mem_map.1 hu
  rfl
/-- A slice of texts. -/
structure TxtA (w : World) (A : Option Addr) (n : Nat) (l : List (List UInt8)) : Prop where
  len : n = l.length
  reads : Reads w A (l.map cstV)
theorem TxtA.below {w w' : World} {A : Option Addr} {n : Nat} {l : List (List UInt8)} (h : TxtA w A n l) (hb : Below w.heap.size w w') : TxtA w' A n l := ⟨h.len, h.reads.keep_ hb⟩
theorem TxtA.at {w : World} {A : Option Addr} {n : Nat} {l : List (List UInt8)} (h : TxtA w A n l) {k : Nat} (hk : k < l.length) :
    ∃ g off, A = some ⟨g, off, none⟩ ∧ w.cell? ⟨g, off + k, none⟩ = some (.string ⟨(l[k]).toArray⟩) := by
  obtain ⟨g, off, hA, hc⟩ := h.reads (by simp; omega)
  exact ⟨g, off, hA, hc k _ (by simp [List.getElem?_eq_getElem hk, cstV])⟩
theorem TxtA.of_own {w : World} {base n : Nat} {v : Value} {l : List (List UInt8)} (h : w.ownsRow base 9 1 v n (l.map cstV)) : ∃ A c, v = .slice A n c ∧ n ≤ c ∧ TxtA w A n l := by
  have hn : n = l.length := by have := h.1; simpa using this.symm
  rcases h.2 with ⟨rfl, rfl⟩ | ⟨g, cap, cur, rfl, h1, h2, h3, h4, h5, h6⟩
  · have := List.eq_nil_of_length_eq_zero hn.symm
    subst this
    exact ⟨none, 0, rfl, Nat.le_refl _, rfl, Reads.empty⟩
  · refine ⟨_, cap, rfl, h3, hn, fun hx => ⟨g, 0, rfl, fun j u hj => ?_⟩⟩
    have hjl := (List.getElem?_eq_some_iff.1 hj).1
    have : Has w g 9 cur := h2
    rw [this.cell, Nat.zero_add, ← hj, ← h6, List.getElem?_take, if_pos (by have := h.1; omega)]
    simp
def TxtEnd (w : World) (l : List (List UInt8)) (e : Ending) (w' : World) : Prop := ∃ A c, e = .returned (.slice A l.length c) ∧ TxtA w' A l.length l ∧ Below w.heap.size w w'
theorem stinfo : (Tryd.prog.info? 9).map (fun i => (i.zero, i.size, i.bytes)) = some (some (.string ByteArray.empty), 1, 16) := by kernel_rfl
theorem st_own_nil (w : World) (B : Nat) : w.ownsRow B 9 1 (.slice none 0 0) 0 [] := ⟨rfl, .inl ⟨rfl, rfl⟩⟩


theorem ceOwnBelow {w w' : World} {b : Nat} {e : TypeId} {s n : Nat} {v : Value} {xs : List Value} (h : w.ownsRow b e s v n xs) (hb : Below w.heap.size w w') : w'.ownsRow b e s v n xs :=
  h.kept (row := none) ⟨hb.os, hb.tape, hb.output, hb.size, fun k hk _ => hb.block k hk⟩ (by
    rcases v.ownBlock with _ | g
    · exact .inl rfl
    · exact .inr (by simp))
/-- 'append(v, u)' of one element of one cell. -/
theorem wpList_append_one {P : Program} {w : World} {ops : Array Oper} {rest : List Oper} {o : Oper} {a : Act} {Q : Exit → Act → World → Prop} (hgd : o.guard = none) (s x : Operand) (t t' : TypeId)
    (ho : o.op = .call { callee := .builtin .append, args := #[s, x], argTypes := #[t, t] }) (base : Nat) (e : TypeId) (i : TypeInfo) (z : Value) (bytes : Nat) (ht : P.underlying t = some (.slice e)) (hi : P.info? e = some i) (hz : i.zero = some z)
    (hsize : i.size = 1) (hby : i.bytes = bytes) (hzs : z.cells.size = 1) (v : Value) (n : Nat) (xs : List Value) (hs : a.eval s = v) (hown : w.ownsRow base e 1 v n xs) (u : Value) (hx : a.eval x = .slice (some ⟨w.heap.size, 0, none⟩) 1 1) (hu : u.oneCell' = true)
    (hmax : (n + 1) * bytes ≤ 140737488355328) (h63 : n + 1 ≤ maxLen) (hbase : base ≤ w.heap.size)
    (h : ∀ v' w', w'.ownsRow base e 1 v' (n + 1) (xs ++ [u]) → Below base w w' → wpList P ops Q rest (a.put o.dst v') w') : wpList P ops Q (o :: rest) a (w.alloc (.cells #[u] t')) := by
  refine wpList_append_own _ hgd s x t ho base e i z 1 bytes ht hi hz hsize hby hzs (by decide) v n xs hs (hown.alloc _) ⟨w.heap.size, 0, none⟩ 1 1 [u] hx rfl (fun j y hj => ?_) (fun y hy => ?_) (by omega) (by omega) (by simp; omega) (fun v' w' h1 h2 _ => h v' w' h1 ?_)
  · rw [add_plain, (Has.made w t' #[u]).cell]
    simpa using hj
  · obtain rfl := List.mem_singleton.1 hy
    exact hu
  · exact ((Below.refl _ w).mono hbase |>.alloc hbase _).grown h2 (by simp; omega) (fun k hk => (hown.lt k hk).1)

set_option maxHeartbeats 1000000 in
theorem texts_any (A : Option Addr) (n c : Nat) (q : List Hd) (w : World) (h : CellsA w A n c q) (hf : q.length ≤ 1000000) :
    Calls Tryd.prog 12 #[.slice A n c] w (TxtEnd w (lq q)) := by
  obtain ⟨j0, hj, jz0, jz1, jz2⟩ := info_parts stinfo
  have HA := Lib.hid h
  have HL := Lib.hid h.len
  have hn : n ≤ 1000000 := by rw [h.len]; exact hf
  clear h
  go_enter Tryd.func12, Tryd.ntmps12
  go_wp2
  go_loopw [3, 4] (fun v i wr => ∃ k : Nat, k ≤ n ∧ i = .int .i64 k ∧ wr.ownsRow w.heap.size 9 1 v k (((lq q).take k).map cstV) ∧ Below w.heap.size w wr) (fun _ i _ => n - (intOf i).toNat)
  case atStart => exact ⟨0, Nat.zero_le _, rfl, st_own_nil _ _, Below.refl _ _⟩
  case round =>
    obtain ⟨k, hk, rfl, hO, hB⟩ := hrel
    have HO := Lib.hid hO
    have HB := Lib.hid hB
    clear hO hB
    by_cases hlt : k < n
    · have hkl : k < q.length := by rw [← HL.out]; exact hlt
      have HW := HA.out.below HB.out
      obtain ⟨g, off, rfl, hc⟩ := HW.at hkl
      have hd := HW.hdr hkl
      have NX : Hid (((lq q).take (k + 1)).map cstV = ((lq q).take k).map cstV ++ [cstV (q[k]).l]) := Lib.hid (by
        have h1 := lq_at q hkl
        obtain ⟨h2, h3⟩ := List.getElem?_eq_some_iff.1 h1
        rw [List.take_succ_eq_append_getElem h2, h3]
        simp)
      have hs := run_string_of (P := Tryd.prog) wr 25 9 5 Tryd.underlying25 Tryd.underlying5 Tryd.underlying9 (cap := (q[k]).c) hd.len hd.reads
      clear HW hd
      generalize q[k] = y at *
      have HCS : Hid (cstV y.l = .string ⟨y.l.toArray⟩) := Lib.hid rfl
      obtain ⟨sz, hsz⟩ : ∃ z : ByteArray, (⟨y.l.toArray⟩ : ByteArray) = z := ⟨_, rfl⟩
      rw [hsz] at hs HCS
      rw [HCS.out] at NX
      clear hkl hsz HCS
      go_wp2_with (at_builtin; refine wpList_append_one rfl _ _ 31 9 rfl w.heap.size 9 j0 _ 16 Tryd.underlying31 hj jz0 jz1 jz2 rfl _ k _ rfl HO.out (.string sz) rfl rfl ?_ ?_ ?_ ?_; (omega); (unfold maxLen; omega); (exact HB.out.size); intro v4 w4 h7 h8; have O4 := Lib.hid h7; have B4 := Lib.hid (HB.out.trans h8); clear h7 h8)
      go_roundw
      case rel => exact ⟨k + 1, by omega, by go_num, by rw [NX.out]; exact O4.out, B4.out⟩
      case measure => simp [intOf]; omega
    · obtain rfl : k = n := by omega
      obtain ⟨w3, hw3⟩ : ∃ w3 : World, w3 = wr := ⟨_, rfl⟩
      subst hw3
      have HQ := HO.out
      have hkl : k = (lq q).length := by rw [lq_len, ← HL.out]
      rw [List.take_of_length_le (Nat.le_of_eq hkl.symm)] at HQ
      obtain ⟨A2, c2, rfl, _, hT⟩ := TxtA.of_own HQ
      have HT := Lib.hid hT
      have HKL := Lib.hid hkl
      clear HQ hT hkl
      go_wp2
      go_ret
      exact ⟨A2, c2, by rw [← HKL.out]; rfl, by rw [← HKL.out]; exact HT.out, HB.out⟩

set_option maxHeartbeats 1000000 in
theorem r7Size_any (A : Option Addr) (n c : Nat) (l : List (List UInt8)) (w : World) (h : TxtA w A n l) (hs : cSz l ≤ 1001000) :
    Calls Tryd.prog 14 #[.slice A n c] w fun e w' => e = .returned (.int .i64 (cSz l : Int)) ∧ w = w' := by
  have HA := Lib.hid h
  have HL := Lib.hid h.len
  have hn : n ≤ 1001000 := by have := cSz_len l; rw [h.len]; omega
  clear h
  go_enter Tryd.func14, Tryd.ntmps14
  go_wp2
  go_loop [3, 4] (fun s i => ∃ k : Nat, k ≤ n ∧ i = .int .i64 k ∧ s = .int .i64 (cSz (l.take k) : Int)) (fun _ i => n - (intOf i).toNat)
  case atStart => exact ⟨0, Nat.zero_le _, rfl, rfl⟩
  case round =>
    obtain ⟨k, hk, rfl, rfl⟩ := hrel
    by_cases hlt : k < n
    · have hkl : k < l.length := by rw [← HL.out]; exact hlt
      have ht := cSz_take l (k + 1)
      have hm := cSz_more (List.getElem?_eq_getElem hkl)
      obtain ⟨g, off, rfl, hc⟩ := HA.out.at hkl
      generalize l[k] = y at *
      have hz : (⟨y.toArray⟩ : ByteArray).size = y.length := size_list y
      have HS := Lib.hid hm
      have hb : cSz (l.take k) + y.length + 1 ≤ 2000000 := by omega
      generalize cSz (l.take k) = x at *
      obtain ⟨sz, hsz⟩ : ∃ z : ByteArray, (⟨y.toArray⟩ : ByteArray) = z := ⟨_, rfl⟩
      rw [hsz] at hc hz
      have HZ := Lib.hid hz
      have hb2 : x + sz.size + 1 ≤ 2000000 := by omega
      clear hm ht hkl hsz hz hb
      go_wp2
      go_round
      case rel => exact ⟨k + 1, by omega, by go_num, by rw [HS.out, ← HZ.out]; go_num⟩
      case measure => simp [intOf]; omega
    · obtain rfl : k = n := by omega
      have e : l.take k = l := List.take_of_length_le (by rw [← HL.out]; exact Nat.le_refl _)
      rw [e]
      go_wp2
      go_ret
      exact ⟨rfl, rfl⟩

def sameB (l m : List (List UInt8)) : Bool := decide (l = m)
set_option maxHeartbeats 2000000 in
theorem r7Same_any (A B : Option Addr) (n c m d : Nat) (l x : List (List UInt8)) (w : World) (h : TxtA w A n l) (h' : TxtA w B m x) (hl : n ≤ 1000000) :
    Calls Tryd.prog 17 #[.slice A n c, .slice B m d] w (fun e w' => e = .returned (.bool (sameB l x)) ∧ Below w.heap.size w w') := by
  have HA := Lib.hid h
  have HB := Lib.hid h'
  have HL := Lib.hid h.len
  have HM := Lib.hid h'.len
  clear h h'
  by_cases hnm : n = m
  · subst hnm
    go_enter Tryd.func17, Tryd.ntmps17
    go_wp2
    go_loopw [5] (fun i wr => ∃ k : Nat, k ≤ n ∧ i = .int .i64 k ∧ l.take k = x.take k ∧ Below w.heap.size w wr) (fun i _ => n - (intOf i).toNat)
    case atStart => exact ⟨0, Nat.zero_le _, rfl, rfl, Below.refl _ _⟩
    case round =>
      obtain ⟨k, hk, rfl, hE, hB⟩ := hrel
      have BW := Lib.hid hB
      have HE := Lib.hid hE
      clear hB hE
      by_cases hlt : k < n
      · have hk1 : k < l.length := by rw [← HL.out]; exact hlt
        have hk2 : k < x.length := by rw [← HM.out]; exact hlt
        have NX1 := List.take_succ_eq_append_getElem hk1
        have NX2 := List.take_succ_eq_append_getElem hk2
        have g1 := List.getElem?_eq_getElem hk1
        have g2 := List.getElem?_eq_getElem hk2
        obtain ⟨a1, o1, rfl, c1⟩ := (HA.out.below BW.out).at hk1
        obtain ⟨a2, o2, rfl, c2⟩ := (HB.out.below BW.out).at hk2
        generalize l[k] = y at *
        generalize x[k] = z at *
        have NX1 := Lib.hid NX1
        have NX2 := Lib.hid NX2
        have i0 : (0 : Int) ≤ (k : Int) := by omega
        have i1 : (k : Int) < (n : Int) := by omega
        by_cases hyz : y = z
        · subst hyz
          clear hk1 hk2 g1 g2
          go_wp2
          go_region
          all_goals
            go_wp2
            go_roundw
            case rel => exact ⟨k + 1, by omega, by go_num, by rw [NX1.out, NX2.out, HE.out], BW.out.drew⟩
            case measure => simp [intOf]; omega
        · have HD : Hid (sameB l x = false) := Lib.hid (decide_eq_false (by
            rintro rfl
            rw [g1] at g2
            injection g2 with g2
            exact hyz g2))
          have hq : (y == z) = false := by simpa using hyz
          clear hk1 hk2 g1 g2
          go_wp2
          go_region
          all_goals
            go_wp2
            go_ret
            exact ⟨by rw [HD.out]; rfl, BW.out.drew⟩
      · obtain rfl : k = n := by omega
        have HD : Hid (sameB l x = true) := Lib.hid (decide_eq_true (by
          have h1 := HE.out
          rwa [List.take_of_length_le (Nat.le_of_eq HL.out.symm), List.take_of_length_le (Nat.le_of_eq HM.out.symm)] at h1))
        obtain ⟨w3, hw3⟩ : ∃ w3 : World, w3 = wr := ⟨_, rfl⟩
        subst hw3
        go_wp2
        go_ret
        exact ⟨by rw [HD.out]; rfl, BW.out⟩
  · have HD : Hid (sameB l x = false) := Lib.hid (decide_eq_false (by
      rintro rfl
      exact hnm (HL.out.trans HM.out.symm)))
    have hne : ((n : Int) == (m : Int)) = false := beq_false_of_ne (by omega)
    go_enter Tryd.func17, Tryd.ntmps17
    go_wp2
    go_ret
    exact ⟨by rw [HD.out]; rfl, Below.refl _ _⟩

end Go.Proofs.YtlehajpadiiicaaDoor
