import Derived.Test.YtpikcodnonodlaaDoorJ02
import Derived.Deep.RegionHeld
import Derived.BigQuiet
import Derived.Deep.RegionWith
import Derived.Deep.WholeRow
/- Of a claim's texts, joined: Cea Ceb Cec. No statement but in the last. -/
section
namespace Go.Proofs.YtpikcodnonodlaaDoor
open Go.RowKit
set_option linter.unusedVariables false

structure Hd where
  a : Option Addr
  n : Nat
  c : Nat
  l : List UInt8
def Hd.v (h : Hd) : Value := .slice h.a h.n h.c
structure CellsA (w : World) (A : Option Addr) (n c : Nat) (q : List Hd) : Prop where
  len : n = q.length
  reads : Reads w A (q.map Hd.v)
  each : ∀ h ∈ q, Arg w h.a h.n h.c h.l
  room : n ≤ c
  most : c ≤ maxLen
  nil : A = none → c = 0
def lq (q : List Hd) : List (List UInt8) := q.map Hd.l
theorem CellsA.below {w w' : World} {A : Option Addr} {n c : Nat} {q : List Hd} (h : CellsA w A n c q) (hb : Below w.heap.size w w') : CellsA w' A n c q :=
  ⟨h.len, h.reads.keep_ hb, fun x hx => (h.each x hx).below hb, h.room, h.most, h.nil⟩
theorem CellsA.at {w : World} {A : Option Addr} {n c : Nat} {q : List Hd} (h : CellsA w A n c q) {k : Nat} (hk : k < q.length) :
    ∃ g off, A = some ⟨g, off, none⟩ ∧ w.cell? ⟨g, off + k, none⟩ = some (.slice (q[k]).a (q[k]).n (q[k]).c) := by
  obtain ⟨g, off, hA, hc⟩ := h.reads (by simp; omega)
  exact ⟨g, off, hA, hc k _ (by simp [List.getElem?_eq_getElem hk, Hd.v])⟩
theorem CellsA.hdr {w : World} {A : Option Addr} {n c : Nat} {q : List Hd} (h : CellsA w A n c q) {k : Nat} (hk : k < q.length) : Arg w (q[k]).a (q[k]).n (q[k]).c (q[k]).l := h.each _ (List.getElem_mem hk)
theorem lq_len (q : List Hd) : (lq q).length = q.length := by simp [lq]
theorem lq_at (q : List Hd) {k : Nat} (hk : k < q.length) : (lq q)[k]? = some (q[k]).l := by simp [lq, hk]
theorem CellsA.none_ (w : World) : CellsA w none 0 0 [] := ⟨rfl, Reads.empty, fun x hx => (by cases hx), Nat.le_refl _, Nat.zero_le _, fun _ => rfl⟩
def Few (q : List Hd) : Prop := q.length ≤ 1000 ∧ ∀ x ∈ q, x.l.length ≤ 1000
theorem Few.size {q : List Hd} (h : Few q) : cSz (lq q) ≤ 1001000 := by
  have := cSz_few (lq q) 1000 1000 (by rw [lq_len]; exact h.1) (fun c hc => by
    obtain ⟨x, hx, rfl⟩ := List.mem_map.1 hc
    exact h.2 x hx)
  omega
theorem cSz_step {q : List Hd} {k : Nat} (hk : k < q.length) : cSz ((lq q).take (k + 1)) = cSz ((lq q).take k) + ((q[k]).l.length + 1) := cSz_more (lq_at q hk)

set_option maxHeartbeats 400000 in
theorem ceSize_any (A : Option Addr) (n c : Nat) (q : List Hd) (w : World) (h : CellsA w A n c q) (hf : Few q) :
    Calls Tryd.prog 36 #[.slice A n c] w fun e w' => e = .returned (.int .i64 (cSz (lq q) : Int)) ∧ w = w' := by
  have HA := Lib.hid h
  have HF := Lib.hid hf
  have HL := Lib.hid h.len
  have hs := hf.size
  have hn : n ≤ 1000 := by rw [h.len]; exact hf.1
  clear h hf
  go_enter Tryd.func36, Tryd.ntmps36
  go_wp2
  go_loop [3, 10] (fun s i => ∃ k x : Nat, k ≤ n ∧ i = .int .i64 k ∧ s = .int .i64 x ∧ x + k = n + cSz ((lq q).take k)) (fun _ i => n - (intOf i).toNat)
  case atStart => exact ⟨0, n, Nat.zero_le _, rfl, rfl, by simp [cSz]⟩
  case round =>
    obtain ⟨k, x, hk, rfl, rfl, hx⟩ := hrel
    by_cases hlt : k < n
    · have hkl : k < q.length := by rw [← HL.out]; exact hlt
      have ht := cSz_take (lq q) (k + 1)
      have hm := cSz_step hkl
      obtain ⟨g, off, rfl, hc⟩ := HA.out.at hkl
      have hlen := (HA.out.hdr hkl).len
      have HS := Lib.hid (show x + (q[k]).n + (k + 1) = n + cSz ((lq q).take (k + 1)) by rw [hm, hlen]; omega)
      have hb : x + (q[k]).n ≤ 2000000 := by have := HS.out; omega
      clear hx ht hm hlen
      generalize q[k] = y at *
      clear hkl
      go_wp2
      go_round
      case rel => exact ⟨k + 1, x + y.n, by omega, by go_num, by go_num, HS.out⟩
      case measure => simp [intOf]; omega
    · obtain rfl : k = n := by omega
      have e : (lq q).take k = lq q := List.take_of_length_le (by rw [lq_len, ← HL.out]; exact Nat.le_refl _)
      rw [e] at hx
      obtain rfl : x = cSz (lq q) := by omega
      go_wp2
      go_ret
      exact ⟨rfl, rfl⟩

def smallB (q : List Hd) : Bool := decide (q.length ≤ 300 ∧ ∀ x ∈ q, x.l.length ≤ 300)
/-! Texts. -/
def cstV (l : List UInt8) : Value := .string ⟨l.toArray⟩
structure TxtA (w : World) (A : Option Addr) (n : Nat) (l : List (List UInt8)) : Prop where
  len : n = l.length
  reads : Reads w A (l.map cstV)
theorem TxtA.below {w w' : World} {A : Option Addr} {n : Nat} {l : List (List UInt8)} (h : TxtA w A n l) (hb : Below w.heap.size w w') : TxtA w' A n l := ⟨h.len, h.reads.keep_ hb⟩
theorem TxtA.at {w : World} {A : Option Addr} {n : Nat} {l : List (List UInt8)} (h : TxtA w A n l) {k : Nat} (hk : k < l.length) :
    ∃ g off, A = some ⟨g, off, none⟩ ∧ w.cell? ⟨g, off + k, none⟩ = some (.string ⟨(l[k]).toArray⟩) := by
  obtain ⟨g, off, hA, hc⟩ := h.reads (by simp; omega)
  exact ⟨g, off, hA, hc k _ (by simp [List.getElem?_eq_getElem hk, cstV])⟩
theorem TxtA.of_own {w : World} {base n : Nat} {v : Value} {l : List (List UInt8)} (h : w.ownsRow base 9 1 v n (l.map cstV)) : ∃ A c, v = .slice A n c ∧ n ≤ c ∧ TxtA w A n l := by
  have hn : n = l.length := by have := h.1; simpa using this.symm
  rcases h.2 with ⟨rfl, rfl⟩ | ⟨g, cap, cur, rfl, h1, h2, h3, h4, h5, h6⟩
  · have := List.eq_nil_of_length_eq_zero hn.symm
    subst this
    exact ⟨none, 0, rfl, Nat.le_refl _, rfl, Reads.empty⟩
  · refine ⟨_, cap, rfl, h3, hn, fun hx => ⟨g, 0, rfl, fun j u hj => ?_⟩⟩
    have hjl := (List.getElem?_eq_some_iff.1 hj).1
    have : Has w g 9 cur := h2
    rw [this.cell, Nat.zero_add, ← hj, ← h6, List.getElem?_take, if_pos (by have := h.1; omega)]
    simp
def TxtEnd (w : World) (l : List (List UInt8)) (e : Ending) (w' : World) : Prop := ∃ A c, e = .returned (.slice A l.length c) ∧ TxtA w' A l.length l ∧ Below w.heap.size w w'
theorem stinfo : (Tryd.prog.info? 9).map (fun i => (i.zero, i.size, i.bytes)) = some (some (.string ByteArray.empty), 1, 16) := by kernel_rfl
theorem st_own_nil (w : World) (B : Nat) : w.ownsRow B 9 1 (.slice none 0 0) 0 [] := ⟨rfl, .inl ⟨rfl, rfl⟩⟩


theorem wpList_append_one {P : Program} {w : World} {ops : Array Oper} {rest : List Oper} {o : Oper} {a : Act} {Q : Exit → Act → World → Prop} (hgd : o.guard = none) (s x : Operand) (t t' : TypeId)
    (ho : o.op = .call { callee := .builtin .append, args := #[s, x], argTypes := #[t, t] }) (base : Nat) (e : TypeId) (i : TypeInfo) (z : Value) (bytes : Nat) (ht : P.underlying t = some (.slice e)) (hi : P.info? e = some i) (hz : i.zero = some z)
    (hsize : i.size = 1) (hby : i.bytes = bytes) (hzs : z.cells.size = 1) (v : Value) (n : Nat) (xs : List Value) (hs : a.eval s = v) (hown : w.ownsRow base e 1 v n xs) (u : Value) (hx : a.eval x = .slice (some ⟨w.heap.size, 0, none⟩) 1 1) (hu : u.oneCell' = true)
    (hmax : (n + 1) * bytes ≤ 140737488355328) (h63 : n + 1 ≤ maxLen) (hbase : base ≤ w.heap.size)
    (h : ∀ v' w', w'.ownsRow base e 1 v' (n + 1) (xs ++ [u]) → Below base w w' → wpList P ops Q rest (a.put o.dst v') w') : wpList P ops Q (o :: rest) a (w.alloc (.cells #[u] t')) := by
  refine wpList_append_own _ hgd s x t ho base e i z 1 bytes ht hi hz hsize hby hzs (by decide) v n xs hs (hown.alloc _) ⟨w.heap.size, 0, none⟩ 1 1 [u] hx rfl (fun j y hj => ?_) (fun y hy => ?_) (by omega) (by omega) (by simp; omega) (fun v' w' h1 h2 _ => h v' w' h1 ?_)
  · rw [add_plain, (Has.made w t' #[u]).cell]
    simpa using hj
  · obtain rfl := List.mem_singleton.1 hy
    exact hu
  · exact ((Below.refl _ w).mono hbase |>.alloc hbase _).grown h2 (by simp; omega) (fun k hk => (hown.lt k hk).1)


set_option maxHeartbeats 1000000 in
theorem r7Size_any (A : Option Addr) (n c : Nat) (l : List (List UInt8)) (w : World) (h : TxtA w A n l) (hs : cSz l ≤ 1001000) :
    Calls Tryd.prog 38 #[.slice A n c] w fun e w' => e = .returned (.int .i64 (cSz l : Int)) ∧ w = w' := by
  have HA := Lib.hid h
  have HL := Lib.hid h.len
  have hn : n ≤ 1001000 := by have := cSz_len l; rw [h.len]; omega
  clear h
  go_enter Tryd.func38, Tryd.ntmps38
  go_wp2
  go_loop [3, 4] (fun s i => ∃ k : Nat, k ≤ n ∧ i = .int .i64 k ∧ s = .int .i64 (cSz (l.take k) : Int)) (fun _ i => n - (intOf i).toNat)
  case atStart => exact ⟨0, Nat.zero_le _, rfl, rfl⟩
  case round =>
    obtain ⟨k, hk, rfl, rfl⟩ := hrel
    by_cases hlt : k < n
    · have hkl : k < l.length := by rw [← HL.out]; exact hlt
      have ht := cSz_take l (k + 1)
      have hm := cSz_more (List.getElem?_eq_getElem hkl)
      obtain ⟨g, off, rfl, hc⟩ := HA.out.at hkl
      generalize l[k] = y at *
      have hz : (⟨y.toArray⟩ : ByteArray).size = y.length := size_list y
      have HS := Lib.hid hm
      have hb : cSz (l.take k) + y.length + 1 ≤ 2000000 := by omega
      generalize cSz (l.take k) = x at *
      obtain ⟨sz, hsz⟩ : ∃ z : ByteArray, (⟨y.toArray⟩ : ByteArray) = z := ⟨_, rfl⟩
      rw [hsz] at hc hz
      have HZ := Lib.hid hz
      have hb2 : x + sz.size + 1 ≤ 2000000 := by omega
      clear hm ht hkl hsz hz hb
      go_wp2
      go_round
      case rel => exact ⟨k + 1, by omega, by go_num, by rw [HS.out, ← HZ.out]; go_num⟩
      case measure => simp [intOf]; omega
    · obtain rfl : k = n := by omega
      have e : l.take k = l := List.take_of_length_le (by rw [← HL.out]; exact Nat.le_refl _)
      rw [e]
      go_wp2
      go_ret
      exact ⟨rfl, rfl⟩

def sameB (l m : List (List UInt8)) : Bool := decide (l = m)

end Go.Proofs.YtpikcodnonodlaaDoor
end

section
namespace Go.Proofs.YtpikcodnonodlaaDoor
open Go.RowKit
set_option linter.unusedVariables false

theorem cCut_cons (b : List UInt8) (ss : List UInt8) (k end_ : Nat) (s : UInt8) (h : ss[k]? = some s) (hs : s.toNat ≤ end_) : cCut b (ss.drop k) end_ = (b.drop s.toNat).take (end_ - s.toNat) :: cCut b (ss.drop (k + 1)) s.toNat := by
  obtain ⟨hk, hg⟩ := List.getElem?_eq_some_iff.1 h
  rw [List.drop_eq_getElem_cons hk, hg]
  simp only [cCut]
  rw [if_neg (by omega)]
theorem cCut_stop (b : List UInt8) (ss : List UInt8) (k end_ : Nat) (s : UInt8) (h : ss[k]? = some s) (hs : ¬ s.toNat ≤ end_) : cCut b (ss.drop k) end_ = [] := by
  obtain ⟨hk, hg⟩ := List.getElem?_eq_some_iff.1 h
  rw [List.drop_eq_getElem_cons hk, hg]
  simp only [cCut]
  rw [if_pos (by omega)]
theorem Arg.cell_ {w : World} {g off c : Nat} {l : List UInt8} (h : Arg w (some ⟨g, off, none⟩) 128 c l) (s e : Nat) (hs : s ≤ e) (he : e ≤ 128) (A : Option Addr) (hA : e - s = 0 ∨ A = some ⟨g, off + s, none⟩) (hn : A ≠ none) :
    Arg w A (e - s) (e - s) ((l.drop s).take (e - s)) := by
  have hl := h.len
  have hm := h.most
  have hr := h.room
  refine ⟨by simp; omega, ?_, ?_, Nat.le_refl _, by unfold maxLen at *; omega, fun h => absurd h hn⟩
  · rcases hA with h0 | rfl
    · rw [h0, List.take_zero]
      exact Reads.empty
    · intro hx
      obtain ⟨g', off', hA', hc⟩ := h.reads (by simp; omega)
      injection hA' with hA'
      injection hA' with h1 h2 _
      subst h1 h2
      refine ⟨g, off + s, rfl, fun j u hj => ?_⟩
      have hjl := (List.getElem?_eq_some_iff.1 hj).1
      rw [List.length_map, List.length_take] at hjl
      rw [Nat.add_assoc]
      refine hc (s + j) u ?_
      rw [← hj, List.getElem?_map, List.getElem?_map, List.getElem?_take, if_pos (by omega), List.getElem?_drop]
  · rintro h0 a rfl
    rcases hA with h1 | hA
    · omega
    · injection hA with hA
      subst hA
      exact h.old (a := ⟨g, off, none⟩) (by omega) rfl
theorem byinfo : (Tryd.prog.info? 26).map (fun i => (i.zero, i.size, i.bytes)) = some (some (.slice none 0 0), 1, 24) := by kernel_rfl
theorem by_own_nil (w : World) (B : Nat) : w.ownsRow B 26 1 (.slice none 0 0) 0 [] := ⟨rfl, .inl ⟨rfl, rfl⟩⟩
theorem lq_snoc (q : List Hd) (y : Hd) : lq (q ++ [y]) = lq q ++ [y.l] := by simp [lq]
theorem hd_snoc (q : List Hd) (y : Hd) : (q ++ [y]).map Hd.v = q.map Hd.v ++ [y.v] := by simp
theorem CellsA.of_own {w : World} {base n : Nat} {v : Value} {q : List Hd} (h : w.ownsRow base 26 1 v n (q.map Hd.v)) (he : ∀ x ∈ q, Arg w x.a x.n x.c x.l) : ∃ A c, v = .slice A n c ∧ CellsA w A n c q := by
  have hn : n = q.length := by have := h.1; simpa using this.symm
  rcases h.2 with ⟨rfl, rfl⟩ | ⟨g, cap, cur, rfl, h1, h2, h3, h4, h5, h6⟩
  · have := List.eq_nil_of_length_eq_zero hn.symm
    subst this
    exact ⟨none, 0, rfl, CellsA.none_ w⟩
  · refine ⟨_, cap, rfl, hn, fun hx => ⟨g, 0, rfl, fun j u hj => ?_⟩, he, h3, h4, fun h => by cases h⟩
    have hjl := (List.getElem?_eq_some_iff.1 hj).1
    have : Has w g 26 cur := h2
    rw [this.cell, Nat.zero_add, ← hj, ← h6, List.getElem?_take, if_pos (by have := h.1; omega)]
    simp
def CutEnd (w : World) (ls : List (List UInt8)) (e : Ending) (w' : World) : Prop := ∃ A n c q, e = .returned (.slice A n c) ∧ CellsA w' A n c q ∧ lq q = ls ∧ Below w.heap.size w w'
def CutSt (w : World) (l : List UInt8) (k : Nat) (v e : Value) (wr : World) : Prop :=
  ∃ (end_ : Nat) (q : List Hd), e = .int .i64 end_ ∧ end_ ≤ 128 ∧ q.length = k ∧ lq q ++ cCut l ((cSlotsOf l).drop k) end_ = cCells l ∧ (∀ x ∈ q, Arg w x.a x.n x.c x.l) ∧ wr.ownsRow w.heap.size 26 1 v k (q.map Hd.v) ∧ Below w.heap.size w wr
theorem CutSt.end_ {w wr : World} {l : List UInt8} {k : Nat} {v e : Value} (h : CutSt w l k v e wr) (hc : ∀ end_ : Nat, e = .int .i64 end_ → cCut l ((cSlotsOf l).drop k) end_ = []) : CutEnd w (cCells l) (.returned v) wr := by
  obtain ⟨end_, q, h1, h2, h3, h4, h5, h6, h7⟩ := h
  obtain ⟨A, c, rfl, hC⟩ := CellsA.of_own h6 (fun x hx => (h5 x hx).below h7)
  rw [hc _ h1, List.append_nil] at h4
  exact ⟨A, k, c, q, rfl, hC, h4, h7⟩

set_option maxRecDepth 100000 in
set_option maxHeartbeats 4000000 in
theorem ceCut_any (A : Option Addr) (c : Nat) (l : List UInt8) (w : World) (h : Arg w A 128 c l) :
    Calls Tryd.prog 48 #[.slice A 128 c] w (CutEnd w (cCells l)) := by
  obtain ⟨j0, hj, jz0, jz1, jz2⟩ := info_parts byinfo
  have HH := Lib.hid h
  have HL := Lib.hid h.len
  have hc := h.room
  have hcm := h.most
  unfold maxLen at hcm
  obtain ⟨g, off, rfl, hcell⟩ := h.reads (by have := h.len; simp; omega)
  obtain ⟨x, hx⟩ : ∃ x, l[5]? = some x := ⟨_, List.getElem?_eq_getElem (by have := h.len; omega)⟩
  have h5 : w.cell? ⟨g, off + 5, none⟩ = some (.int .u8 (x.toNat : Int)) := hcell 5 (byteV x) (by simp [hx])
  have hxl := x.toNat_lt
  have HX : Hid (cCount l = x.toNat) := Lib.hid (by unfold cCount; rw [hx]; rfl)
  have HSL : Hid (∀ k s, (cSlotsOf l)[k]? = some s → ∀ wr, Below w.heap.size w wr → wr.cell? ⟨g, off + 6 + k, none⟩ = some (.int .u8 (s.toNat : Int))) := Lib.hid (fun k s hk wr hb => by
    unfold cSlotsOf at hk
    rw [List.getElem?_take] at hk
    split at hk
    · rw [List.getElem?_drop] at hk
      rw [Nat.add_assoc]
      have h6 := hcell (6 + k) (byteV s) (by rw [List.getElem?_map, hk]; rfl)
      exact (hb.cell (p := ⟨g, off + (6 + k), none⟩) (World.block_lt_of_cell? w _ h6)).trans h6
    · cases hk)
  clear hcell h hx
  generalize x.toNat = z at *
  by_cases hz : z ≤ 122
  · have HM : Hid ((cSlotsOf l).length = z) := Lib.hid (by unfold cSlotsOf; rw [HX.out]; have := HL.out; simp; omega)
    go_enter Tryd.func48, Tryd.ntmps48
    go_wp2
    have e1 : 6 + z - 6 = z := by omega
    rw [e1]
    clear e1
    go_loopw [3, 4, 21] (fun v e i wr => ∃ k : Nat, k ≤ z ∧ i = .int .i64 k ∧ CutSt w l k v e wr) (fun _ _ i _ => z - (intOf i).toNat)
    case atStart => exact ⟨0, Nat.zero_le _, rfl, 128, [], rfl, Nat.le_refl _, rfl, rfl, fun x hx => (by cases hx), by_own_nil _ _, Below.refl _ _⟩
    case round =>
      obtain ⟨k, hk, rfl, hST⟩ := hrel
      have ST := Lib.hid hST
      clear hST
      by_cases hlt : k < z
      · obtain ⟨end_, q, rfl, he, hqk, hcut, hargs, hO, hB⟩ := ST.out
        have HO := Lib.hid hO
        have HB := Lib.hid hB
        have HQ := Lib.hid hqk
        have HCT := Lib.hid hcut
        have HAR := Lib.hid hargs
        clear hO hB hqk hcut hargs
        obtain ⟨s, hs⟩ : ∃ s, (cSlotsOf l)[k]? = some s := ⟨_, List.getElem?_eq_getElem (by rw [HM.out]; exact hlt)⟩
        have cs := HSL.out k s hs wr HB.out
        have hsl := s.toNat_lt
        by_cases hse : s.toNat ≤ end_
        · have CC := Lib.hid (cCut_cons l (cSlotsOf l) k end_ s hs hse)
          clear hs
          generalize s.toNat = t at *
          have b1 : (t : Int) ≤ (end_ : Int) := by omega
          have b2 : (end_ : Int) ≤ (c : Int) := by omega
          have b3 : ¬ ((end_ : Int) < (t : Int)) := by omega
          by_cases hte : end_ - t = 0
          · have CE := Lib.hid (fun A hn => HH.out.cell_ t end_ hse he A (Or.inl hte) hn)
            obtain rfl : t = end_ := by omega
            go_wp2_with (at_builtin; refine wpList_append_one rfl _ _ 46 26 rfl w.heap.size 26 j0 _ 24 Tryd.underlying46 hj jz0 jz1 jz2 rfl _ k _ rfl HO.out (.slice (some ⟨g, off, none⟩) 0 0) rfl rfl ?_ ?_ ?_ ?_; (omega); (unfold maxLen; omega); (exact HB.out.size); intro v4 w4 h7 h8; have O4 := Lib.hid h7; have B4 := Lib.hid (HB.out.trans h8); clear h7 h8)
            go_roundw
            case rel =>
              refine ⟨k + 1, by omega, by go_num, t, q ++ [⟨some ⟨g, off, none⟩, 0, 0, (l.drop t).take (t - t)⟩], rfl, he, by simp [HQ.out], ?_, ?_, ?_, B4.out⟩
              · have h1 := HCT.out
                rw [CC.out] at h1
                rw [lq_snoc, List.append_assoc]
                exact h1
              · intro x hx
                rcases List.mem_append.1 hx with h | h
                · exact HAR.out x h
                · obtain rfl := List.mem_singleton.1 h
                  have := CE.out (some ⟨g, off, none⟩) (by simp)
                  rw [Nat.sub_self] at this ⊢
                  exact this
              · rw [hd_snoc]
                exact O4.out
            case measure => simp [intOf]; omega
          · have CE := Lib.hid (HH.out.cell_ t end_ hse he (some ⟨g, off + t, none⟩) (Or.inr rfl) (by simp))
            have b4 : t < end_ := by omega
            go_wp2_with (at_builtin; refine wpList_append_one rfl _ _ 46 26 rfl w.heap.size 26 j0 _ 24 Tryd.underlying46 hj jz0 jz1 jz2 rfl _ k _ rfl HO.out (.slice (some ⟨g, off + t, none⟩) (end_ - t) (end_ - t)) rfl rfl ?_ ?_ ?_ ?_; (omega); (unfold maxLen; omega); (exact HB.out.size); intro v4 w4 h7 h8; have O4 := Lib.hid h7; have B4 := Lib.hid (HB.out.trans h8); clear h7 h8)
            go_roundw
            case rel =>
              refine ⟨k + 1, by omega, by go_num, t, q ++ [⟨some ⟨g, off + t, none⟩, end_ - t, end_ - t, (l.drop t).take (end_ - t)⟩], rfl, by omega, by simp [HQ.out], ?_, ?_, ?_, B4.out⟩
              · have h1 := HCT.out
                rw [CC.out] at h1
                rw [lq_snoc, List.append_assoc]
                exact h1
              · intro x hx
                rcases List.mem_append.1 hx with h | h
                · exact HAR.out x h
                · obtain rfl := List.mem_singleton.1 h
                  exact CE.out
              · rw [hd_snoc]
                exact O4.out
            case measure => simp [intOf]; omega
        · have CS := Lib.hid (cCut_stop l (cSlotsOf l) k end_ s hs hse)
          clear hs
          generalize s.toNat = t at *
          have b3 : (end_ : Int) < (t : Int) := by omega
          obtain ⟨w3, hw3⟩ : ∃ w3 : World, w3 = wr := ⟨_, rfl⟩
          subst hw3
          go_wp2
          go_ret
          refine CutSt.end_ ST.out (fun e he => ?_)
          injection he with he
          obtain rfl : end_ = e := by omega
          exact CS.out
      · have CS := Lib.hid (fun (e : Nat) => show cCut l ((cSlotsOf l).drop z) e = [] by rw [List.drop_eq_nil_of_le (Nat.le_of_eq HM.out)]; rfl)
        obtain rfl : k = z := by omega
        obtain ⟨w3, hw3⟩ : ∃ w3 : World, w3 = wr := ⟨_, rfl⟩
        subst hw3
        go_wp2
        go_ret
        exact CutSt.end_ ST.out (fun e he => CS.out e)
  · have HM : Hid ((cSlotsOf l).length = 122) := Lib.hid (by unfold cSlotsOf; rw [HX.out]; have := HL.out; simp; omega)
    go_enter Tryd.func48, Tryd.ntmps48
    go_wp2
    go_loopw [3, 4, 21] (fun v e i wr => ∃ k : Nat, k ≤ 122 ∧ i = .int .i64 k ∧ CutSt w l k v e wr) (fun _ _ i _ => 122 - (intOf i).toNat)
    case atStart => exact ⟨0, Nat.zero_le _, rfl, 128, [], rfl, Nat.le_refl _, rfl, rfl, fun x hx => (by cases hx), by_own_nil _ _, Below.refl _ _⟩
    case round =>
      obtain ⟨k, hk, rfl, hST⟩ := hrel
      have ST := Lib.hid hST
      clear hST
      by_cases hlt : k < 122
      · obtain ⟨end_, q, rfl, he, hqk, hcut, hargs, hO, hB⟩ := ST.out
        have HO := Lib.hid hO
        have HB := Lib.hid hB
        have HQ := Lib.hid hqk
        have HCT := Lib.hid hcut
        have HAR := Lib.hid hargs
        clear hO hB hqk hcut hargs
        obtain ⟨s, hs⟩ : ∃ s, (cSlotsOf l)[k]? = some s := ⟨_, List.getElem?_eq_getElem (by rw [HM.out]; exact hlt)⟩
        have cs := HSL.out k s hs wr HB.out
        have hsl := s.toNat_lt
        by_cases hse : s.toNat ≤ end_
        · have CC := Lib.hid (cCut_cons l (cSlotsOf l) k end_ s hs hse)
          clear hs
          generalize s.toNat = t at *
          have b1 : (t : Int) ≤ (end_ : Int) := by omega
          have b2 : (end_ : Int) ≤ (c : Int) := by omega
          have b3 : ¬ ((end_ : Int) < (t : Int)) := by omega
          by_cases hte : end_ - t = 0
          · have CE := Lib.hid (fun A hn => HH.out.cell_ t end_ hse he A (Or.inl hte) hn)
            obtain rfl : t = end_ := by omega
            go_wp2_with (at_builtin; refine wpList_append_one rfl _ _ 46 26 rfl w.heap.size 26 j0 _ 24 Tryd.underlying46 hj jz0 jz1 jz2 rfl _ k _ rfl HO.out (.slice (some ⟨g, off, none⟩) 0 0) rfl rfl ?_ ?_ ?_ ?_; (omega); (unfold maxLen; omega); (exact HB.out.size); intro v4 w4 h7 h8; have O4 := Lib.hid h7; have B4 := Lib.hid (HB.out.trans h8); clear h7 h8)
            go_roundw
            case rel =>
              refine ⟨k + 1, by omega, by go_num, t, q ++ [⟨some ⟨g, off, none⟩, 0, 0, (l.drop t).take (t - t)⟩], rfl, he, by simp [HQ.out], ?_, ?_, ?_, B4.out⟩
              · have h1 := HCT.out
                rw [CC.out] at h1
                rw [lq_snoc, List.append_assoc]
                exact h1
              · intro x hx
                rcases List.mem_append.1 hx with h | h
                · exact HAR.out x h
                · obtain rfl := List.mem_singleton.1 h
                  have := CE.out (some ⟨g, off, none⟩) (by simp)
                  rw [Nat.sub_self] at this ⊢
                  exact this
              · rw [hd_snoc]
                exact O4.out
            case measure => simp [intOf]; omega
          · have CE := Lib.hid (HH.out.cell_ t end_ hse he (some ⟨g, off + t, none⟩) (Or.inr rfl) (by simp))
            have b4 : t < end_ := by omega
            go_wp2_with (at_builtin; refine wpList_append_one rfl _ _ 46 26 rfl w.heap.size 26 j0 _ 24 Tryd.underlying46 hj jz0 jz1 jz2 rfl _ k _ rfl HO.out (.slice (some ⟨g, off + t, none⟩) (end_ - t) (end_ - t)) rfl rfl ?_ ?_ ?_ ?_; (omega); (unfold maxLen; omega); (exact HB.out.size); intro v4 w4 h7 h8; have O4 := Lib.hid h7; have B4 := Lib.hid (HB.out.trans h8); clear h7 h8)
            go_roundw
            case rel =>
              refine ⟨k + 1, by omega, by go_num, t, q ++ [⟨some ⟨g, off + t, none⟩, end_ - t, end_ - t, (l.drop t).take (end_ - t)⟩], rfl, by omega, by simp [HQ.out], ?_, ?_, ?_, B4.out⟩
              · have h1 := HCT.out
                rw [CC.out] at h1
                rw [lq_snoc, List.append_assoc]
                exact h1
              · intro x hx
                rcases List.mem_append.1 hx with h | h
                · exact HAR.out x h
                · obtain rfl := List.mem_singleton.1 h
                  exact CE.out
              · rw [hd_snoc]
                exact O4.out
            case measure => simp [intOf]; omega
        · have CS := Lib.hid (cCut_stop l (cSlotsOf l) k end_ s hs hse)
          clear hs
          generalize s.toNat = t at *
          have b3 : (end_ : Int) < (t : Int) := by omega
          obtain ⟨w3, hw3⟩ : ∃ w3 : World, w3 = wr := ⟨_, rfl⟩
          subst hw3
          go_wp2
          go_ret
          refine CutSt.end_ ST.out (fun e he => ?_)
          injection he with he
          obtain rfl : end_ = e := by omega
          exact CS.out
      · have CS := Lib.hid (fun (e : Nat) => show cCut l ((cSlotsOf l).drop 122) e = [] by rw [List.drop_eq_nil_of_le (Nat.le_of_eq HM.out)]; rfl)
        obtain rfl : k = 122 := by omega
        obtain ⟨w3, hw3⟩ : ∃ w3 : World, w3 = wr := ⟨_, rfl⟩
        subst hw3
        go_wp2
        go_ret
        exact CutSt.end_ ST.out (fun e he => CS.out e)

end Go.Proofs.YtpikcodnonodlaaDoor
end

section
namespace Go.Proofs.YtpikcodnonodlaaDoor
open Go.RowKit
set_option linter.unusedVariables false

def PackOk (kind : UInt8) (ls : List (List UInt8)) (w : World) (e : Ending) (w' : World) : Prop :=
  ∃ A c, e = .returned (.tuple #[.slice A 128 c, .int .i64 0]) ∧ 128 ≤ c ∧ c ≤ maxLen ∧ Row w' 5 w.heap.size A ((cPage kind ls).map byteV) ∧ Below w.heap.size w w'
def PackNo (w : World) (e : Ending) (w' : World) : Prop := e = .returned (.tuple #[.slice none 0 0, .int .i64 1]) ∧ Below w.heap.size w w'
theorem cePack_no (kind : UInt8) (A : Option Addr) (n c : Nat) (q : List Hd) (w : World) (h : CellsA w A n c q) (hf : Few q) (hn : ¬ cFits kind (lq q)) :
    Calls Tryd.prog 23 #[.int .u8 (kind.toNat : Int), .slice A n c] w (PackNo w) := by
  have HS := Lib.hid (ceSize_any A n c q w h hf)
  by_cases hk : kind = 0
  · subst hk
    go_enter Tryd.func23, Tryd.ntmps23
    go_wp2
    go_ret2
    exact ⟨rfl, Below.refl _ _⟩
  · have hk0 : ((kind.toNat : Int) == 0) = false := beq_false_of_ne (fun e => hk (UInt8.toNat_inj.1 (by simpa using e)))
    have hz : 122 < cSz (lq q) := by
      unfold cFits at hn
      have : ¬ cSz (lq q) ≤ 122 := fun e => hn ⟨hk, e⟩
      omega
    clear hn h hf
    have e2 : decide (122 < (cSz (lq q) : Int)) = true := by simp; omega
    go_enter Tryd.func23, Tryd.ntmps23
    go_wp2_with (go_at_call 36; refine HS.out.mono ?_; rintro e w1 ⟨rfl, rfl⟩)
    go_ret2
    exact ⟨rfl, Below.refl _ _⟩

theorem splice_map {α β : Type} (f : α → β) (L : List α) (o : Nat) (c : List α) : splice (L.map f) o (c.map f) = (splice L o c).map f := by
  simp [splice, List.map_take, List.map_drop]
theorem u8sz : (Tryd.prog.info? 5).map (·.size) = some 1 := by kernel_rfl
theorem draft_zero (kind : UInt8) (n : Nat) (hn : n ≤ 122) : (((List.replicate 128 0).map byteV).toArray.setIfInBounds 4 (.int .u8 (kind.toNat : Int))).setIfInBounds 5 (.int .u8 (n : Int)) = ((cDraft kind n []).map byteV).toArray := by
  have e1 : Value.int .u8 (kind.toNat : Int) = byteV kind := rfl
  have e2 : Value.int .u8 (n : Int) = byteV (UInt8.ofNat n) := by
    unfold byteV
    congr 1
    simp
    omega
  have e3 : (List.replicate 128 0 : List UInt8) = [0, 0, 0, 0, 0, 0] ++ List.replicate 122 0 := by decide
  rw [e1, e2, e3, cDraft_nil]
  simp
theorem slice_page (W : World) (B r : Nat) (h : r ≤ 128) : (Instr.sliceAt 76 (.pointer (some ⟨B, 0, none⟩)) (some (.int .i64 (r : Int))) none none).run Tryd.prog W = .ok (.slice (some ⟨B, if 128 = r then 0 else r, none⟩) (128 - r) (128 - r)) W := by
  have hal : Tryd.prog.arrayLen 76 = 128 := by kernel_rfl
  have hel : Tryd.prog.elem 76 = 5 := by kernel_rfl
  have hun : Tryd.prog.underlying 76 = some (.array (Tryd.prog.arrayLen 76) (Tryd.prog.elem 76)) := by kernel_rfl
  have hsz : (sizeOf (Tryd.prog.elem 76)).run Tryd.prog W = .ok 1 W := by kernel_rfl
  rw [run_sliceAt_array_l W 76 ⟨B, 0, none⟩ hun .i64 (r : Int) (by omega) (by rw [hal]; omega), hsz]
  simp only [Result.andThen, slicedAt, hal, Int.toNat_natCast, Nat.mul_one, add_plain, Nat.zero_add]
  split <;> rfl
def DraftSt (w : World) (kind : UInt8) (n : Nat) (ls : List (List UInt8)) (k : Nat) (a : Value) (wr : World) : Prop :=
  a = .int .i64 ((128 - (cBack (ls.take k)).length : Nat) : Int) ∧ Has wr w.heap.size 76 ((cDraft kind n (ls.take k)).map byteV).toArray ∧ Below w.heap.size w wr
theorem zero_page : ∀ w, (zeroValue 76).run Tryd.prog w = .ok (.agg ((List.replicate 128 0).map byteV).toArray) w :=
  (zero_of_info (show (Tryd.prog.info? 76).map (fun i => (i.zero, i.size)) = some (some (.agg ((List.replicate 128 0).map byteV).toArray), 128) by kernel_rfl)).1
set_option maxRecDepth 100000 in
set_option maxHeartbeats 4000000 in
theorem cePack_yes (kind : UInt8) (A : Option Addr) (n c : Nat) (q : List Hd) (w : World) (ht : Tab w) (h : CellsA w A n c q) (hf : Few q) (hy : cFits kind (lq q)) :
    Calls Tryd.prog 23 #[.int .u8 (kind.toNat : Int), .slice A n c] w (PackOk kind (lq q) w) := by
  have HS := Lib.hid (ceSize_any A n c q w h hf)
  have HT := Lib.hid ht
  have HA := Lib.hid h
  have HL := Lib.hid h.len
  have hk0 : ((kind.toNat : Int) == 0) = false := beq_false_of_ne (fun e => hy.1 (UInt8.toNat_inj.1 (by simpa using e)))
  have hz := hy.2
  have hn : n ≤ 122 := by have := cSz_len (lq q); rw [lq_len] at this; have := h.len; omega
  have hkl := kind.toNat_lt
  have e2 : decide (122 < (cSz (lq q) : Int)) = false := by simp; omega
  clear ht h hf hy
  obtain ⟨zc, hzc⟩ : ∃ zc : Array Value, ((List.replicate 128 0).map byteV).toArray = zc := ⟨_, rfl⟩
  have hz1 : ∀ w, (zeroValue 76).run Tryd.prog w = .ok (.agg zc) w := fun w => by rw [← hzc]; exact zero_page w
  have HZC := Lib.hid hzc
  have hz4 : zc[4]? = some (.int .u8 0) := by rw [← hzc]; simp [byteV]
  have hz5 : zc[5]? = some (.int .u8 0) := by rw [← hzc]; simp [byteV]
  clear hzc
  go_enter Tryd.func23, Tryd.ntmps23
  go_wp2_with (go_at_call 36; refine HS.out.mono ?_; rintro e w1 ⟨rfl, rfl⟩)
  go_loopw [7, 25] (fun a i wr => ∃ k : Nat, k ≤ n ∧ i = .int .i64 k ∧ DraftSt w kind n (lq q) k a wr) (fun _ i _ => n - (intOf i).toNat)
  case atStart =>
    refine ⟨0, Nat.zero_le _, rfl, rfl, ?_, (Below.refl _ _).alloc (Nat.le_refl _) _⟩
    rw [List.take_zero, ← draft_zero kind n hn, HZC.out]
    exact Has.made w _ _
  case round =>
    obtain ⟨k, hk, rfl, hST⟩ := hrel
    by_cases hlt : k < n
    · obtain ⟨rfl, hH, hB⟩ := hST
      have hkl2 : k < q.length := by rw [← HL.out]; exact hlt
      have hlk := lq_at q hkl2
      obtain ⟨g, off, rfl, hc⟩ := (HA.out.below hB).at hkl2
      have HY := HA.out.hdr hkl2
      have hm := cSz_more hlk
      have hme := cSz_take (lq q) (k + 1)
      have hbl := cBack_len ((lq q).take k)
      have htl : ((lq q).take k).length = k := by rw [List.length_take, lq_len]; omega
      have hst := cDraft_step kind n ((lq q).take k) (q[k]).l (by omega)
      have hta : (lq q).take (k + 1) = (lq q).take k ++ [(q[k]).l] := by
        obtain ⟨h2, h3⟩ := List.getElem?_eq_some_iff.1 hlk
        rw [List.take_succ_eq_append_getElem h2, h3]
      have hbk : (cBack ((lq q).take (k + 1))).length = (q[k]).l.length + (cBack ((lq q).take k)).length := by rw [hta, cBack_snoc, List.length_append]
      have hd := cDraft_len kind n ((lq q).take k) (by omega)
      rw [htl] at hst
      have hyl := HY.len
      have NX : Hid (∀ a b W, b = 128 - (cBack ((lq q).take k)).length - (q[k]).l.length → a = .int .i64 ((b : Nat) : Int) → Has W w.heap.size 76 (splice (((cDraft kind n ((lq q).take k)).set (6 + k) (UInt8.ofNat b)).map byteV) b ((q[k]).l.map byteV)).toArray → Below w.heap.size w W → DraftSt w kind n (lq q) (k + 1) a W) := Lib.hid (fun a b W e1 e2 h1 h2 => by
        refine ⟨by rw [e2, e1, hbk]; congr 2; omega, ?_, h2⟩
        rw [splice_map, e1, hst, ← hta] at h1
        exact h1)
      have hb0 : (cBack ((lq q).take k)).length + (q[k]).l.length ≤ 122 := by omega
      have hb1 : 6 + k < 128 - ((cBack ((lq q).take k)).length + (q[k]).l.length) := by omega
      generalize q[k] = y at *
      clear hst hta hbk hm hme hlk hkl2 htl
      generalize (cBack ((lq q).take k)).length = z at *
      obtain ⟨L, hL⟩ : ∃ L, cDraft kind n ((lq q).take k) = L := ⟨_, rfl⟩
      rw [hL] at hd NX hH
      clear hL
      have hck := hH.cell (6 + k)
      have hfr := hH.free (6 + k)
      rw [List.getElem?_toArray, List.getElem?_eq_getElem (by rw [List.length_map]; omega)] at hck
      generalize ((L.map byteV)[6 + k]'_) = old at hck
      have HHR := Lib.hid hH
      have HB := Lib.hid hB
      have HLN := Lib.hid hd
      have HYY := Lib.hid HY
      have HYL := Lib.hid hyl
      have hyn : z + y.n ≤ 122 := by omega
      rw [← hyl] at hb1
      have hyr := HY.room
      have hym := HY.most
      unfold maxLen at hym
      clear hH hB hd HY hyl hbl
      obtain ⟨r, hr⟩ : ∃ r, 128 - z - y.n = r := ⟨_, rfl⟩
      have hpr : ((128 - z : Nat) : Int) - (y.n : Int) = (r : Int) := by omega
      have hr1 : 6 + k < r := by omega
      have hr2 : r + y.n ≤ 128 := by omega
      have HRE : Hid (r = 128 - z - y.l.length) := Lib.hid (by rw [← HYL.out]; exact hr.symm)
      clear hb0 hb1 hr hyn
      generalize ((128 - z : Nat) : Int) = zz at hpr
      have hcl : (L.map byteV).length = 128 := by rw [List.length_map, HLN.out]
      have HS1 : Hid (Has (wr.setCell ⟨w.heap.size, 6 + k, none⟩ (.int .u8 (r : Int))) w.heap.size 76 ((L.set (6 + k) (UInt8.ofNat r)).map byteV).toArray) := Lib.hid (by
        have h1 := HHR.out.store (6 + k) (.int .u8 (r : Int))
        have e : Value.int .u8 (r : Int) = byteV (UInt8.ofNat r) := by
          unfold byteV
          congr 1
          simp
          omega
        rw [e, List.setIfInBounds_toArray, ← List.map_set] at h1
        rw [e]
        exact h1)
      have HS2 : Hid (Below w.heap.size w (wr.setCell ⟨w.heap.size, 6 + k, none⟩ (.int .u8 (r : Int)))) := Lib.hid (HB.out.setCell (Nat.le_refl _) _)
      have HSR : Hid (∀ W, Below w.heap.size w W → 0 < (y.l.map byteV).length → ∃ ad, y.a = some ad ∧ ∀ j v, (y.l.map byteV)[j]? = some v → W.cell? (ad.add j) = some v) := Lib.hid (fun W hb hx => by
        obtain ⟨g1, o1, hA1, hc1⟩ := (HYY.out.below hb).reads hx
        exact ⟨_, hA1, fun j v hj => by rw [add_plain]; exact hc1 j v hj⟩)
      have HLM : Hid ((y.l.map byteV).length = Nat.min y.n (128 - r)) := Lib.hid (by rw [List.length_map, ← HYL.out]; exact (Nat.min_eq_left (by omega)).symm)
      have HFT : Hid (r + (y.l.map byteV).length ≤ ((L.set (6 + k) (UInt8.ofNat r)).map byteV).length) := Lib.hid (by rw [List.length_map, List.length_map, List.length_set, HLN.out, ← HYL.out]; exact hr2)
      clear hcl
      by_cases hr3 : r = 128
      · have HZ0 : Hid (¬ 0 < (y.l.map byteV).length) := Lib.hid (by rw [List.length_map, ← HYL.out]; omega)
        subst hr3
        obtain rfl : zz = 128 := by omega
        have hsl := fun W => slice_page W w.heap.size 128 (by omega)
        rw [if_pos rfl] at hsl
        clear hr2
        have HS1b : Hid (Has (wr.setCell ⟨w.heap.size, 6 + k, none⟩ (.int .u8 128)) w.heap.size 76 ((L.set (6 + k) (UInt8.ofNat 128)).map byteV).toArray) := HS1
        have HS2b : Hid (Below w.heap.size w (wr.setCell ⟨w.heap.size, 6 + k, none⟩ (.int .u8 128))) := HS2
        have HLMb : Hid ((y.l.map byteV).length = Nat.min y.n 0) := HLM
        go_wp2_with (refine wpList_copy_splice rfl (.tmp 40) (.tmp 41) 26 26 rfl 5 Tryd.underlying26 u8sz (some ⟨w.heap.size, 0, none⟩) y.a 0 0 y.n y.c rfl rfl w.heap.size 128 ((L.set (6 + k) (UInt8.ofNat 128)).map byteV) 76 HS1b.out (y.l.map byteV) HLMb.out (fun h => absurd h HZ0.out) HFT.out (one_byteV y.l) w.heap.size w HS2b.out (Nat.le_refl _) ?_; intro w5 h5 h6; have S5 := Lib.hid h5.out; have B5 := Lib.hid h6; clear h5 h6)
        go_roundw
        case rel => exact ⟨k + 1, by omega, by go_num, NX.out _ _ _ HRE.out (by go_num) S5.out B5.out⟩
        case measure => simp [intOf]; omega
      · have hsl := fun W => slice_page W w.heap.size r (by omega)
        rw [if_neg (by omega)] at hsl
        go_wp2_with (refine wpList_copy_splice rfl (.tmp 40) (.tmp 41) 26 26 rfl 5 Tryd.underlying26 u8sz (some ⟨w.heap.size, r, none⟩) y.a (128 - r) (128 - r) y.n y.c rfl rfl w.heap.size r ((L.set (6 + k) (UInt8.ofNat r)).map byteV) 76 HS1.out (y.l.map byteV) HLM.out (fun h => ⟨rfl, HSR.out _ HS2.out h⟩) HFT.out (one_byteV y.l) w.heap.size w HS2.out (Nat.le_refl _) ?_; intro w5 h5 h6; have S5 := Lib.hid h5.out; have B5 := Lib.hid h6; clear h5 h6)
        go_roundw
        case rel => exact ⟨k + 1, by omega, by go_num, NX.out _ _ _ HRE.out (by go_num) S5.out B5.out⟩
        case measure => simp [intOf]; omega
    · obtain rfl : k = n := by omega
      obtain ⟨rfl, hH, hB⟩ := hST
      have htk : (lq q).take k = lq q := List.take_of_length_le (by rw [lq_len, ← HL.out]; exact Nat.le_refl _)
      rw [htk] at hH
      have hlk : (lq q).length = k := by rw [lq_len, ← HL.out]
      have hpg : tagB ((cDraft kind k (lq q)).drop 4) = cPage kind (lq q) := by rw [cDraft_drop, cPage, hlk]
      have hdl : ((cDraft kind k (lq q)).drop 4).length = 124 := by rw [List.length_drop, cDraft_len _ _ _ hz]
      have hR : Reads wr (some ⟨w.heap.size, 4, none⟩) (((cDraft kind k (lq q)).drop 4).map byteV) := fun _ => ⟨w.heap.size, 4, rfl, fun j u hj => by
        rw [hH.cell, ← hj]
        simp [List.map_drop]⟩
      have HTG := Lib.hid (cTag_any (some ⟨w.heap.size, 4, none⟩) 124 124 ((cDraft kind k (lq q)).drop 4) wr (HT.out.below hB) hdl.symm (by omega) hR (fun h => by cases h))
      rw [hpg, ] at HTG
      have HPL := Lib.hid (cPage_len kind (lq q) hz)
      have HB := Lib.hid hB
      have hsl := fun W => slice_page W w.heap.size 4 (by omega)
      rw [if_neg (by omega)] at hsl
      clear hH hB htk hlk hpg hdl hR hlt
      obtain ⟨wo, hwo⟩ : ∃ wo : World, wo = wr := ⟨_, rfl⟩
      subst hwo
      go_wp2_with (go_at_call 37; refine HTG.out.mono ?_; rintro e w2 ⟨A2, c2, rfl, k1, k2, k3, k4⟩; have K1 := Lib.hid k1; have K2 := Lib.hid k2; have K3 := Lib.hid k3; have K4 := Lib.hid k4; clear k1 k2 k3 k4)
      go_ret2
      exact ⟨A2, c2, by rw [HPL.out]; rfl, by rw [← HPL.out]; exact K1.out, K2.out, K3.out.low HB.out.size, below_step HB.out K4.out⟩

end Go.Proofs.YtpikcodnonodlaaDoor
end
