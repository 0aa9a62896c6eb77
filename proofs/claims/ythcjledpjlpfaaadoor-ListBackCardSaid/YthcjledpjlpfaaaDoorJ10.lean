import Derived.Test.YthcjledpjlpfaaaDoorJ09
import Derived.Shelf.Abstract
import Derived.Test.YthcjledpjlpfaaaDoorJ06
import Derived.Test.YthcjledpjlpfaaaDoorJ07
import Derived.Test.YthcjledpjlpfaaaDoorJ08
/- Of a claim's texts, joined: Chr Cht Chu Chv Chz Ced Cef. No statement but in the last. -/
section
namespace Go.Proofs.YthcjledpjlpfaaaDoor
open Go.RowKit Go.Shelf
set_option linter.unusedVariables false
attribute [local go_sem] Oper.semAt_some

def PutSt (s : List UInt8) (l : List Int) (W5 : World) (P7 : Nat) (pre : List Nat) (W : World) : Prop :=
  W5.grownBy W (some P7) ∧ ∃ v q, Boxed W P7 25 v ∧ W.ownsRow W5.heap.size 32 1 v pre.length (q.map Hd.v) ∧ (∀ x ∈ q, RowH W5.heap.size W x) ∧ lq q = pgsN s l pre
theorem Has.walk {X Y : World} {g : Nat} {t : TypeId} {cs : Array Value} {row : Option Nat} (h : Has X g t cs) (hg : X.grownBy Y row) (hr : ∀ r, row = some r → ∃ o : Obj, X.heap[r]? = some o ∧ o.isCells = false) : Has Y g t cs :=
  h.grown hg (fun e => by
    obtain ⟨o, ho, hc⟩ := hr g e.symm
    rw [show X.heap[g]? = _ from h] at ho
    cases ho
    cases hc)
theorem PutSt.own (s : List UInt8) (l : List Int) (W5 : World) (P7 : Nat) : OwnFrom W5.heap.size (PutSt s l W5 P7) := by
  rintro pre X Y row ⟨hg, v, q, hv, ho, hr, hq⟩ hXY hrow
  refine ⟨only_fresh hg hXY (fun g e => (hrow g e).1), v, q, ?_, ?_, ?_, hq⟩
  · exact Has.walk (show Has X P7 25 #[v] from hv) hXY (fun r e => (hrow r e).2)
  · refine ho.kept hXY ?_
    rcases ho.2 with ⟨rfl, _⟩ | ⟨g, cap, cur, rfl, _, hgb, _⟩
    · exact .inl rfl
    · refine .inr (fun e => ?_)
      obtain ⟨_, o, ho', hc⟩ := hrow g e.symm
      rw [hgb] at ho'
      cases ho'
      cases hc
  · intro x hx
    have h := hr x hx
    exact ⟨h.len, h.pos, h.row.keep_ fun g cs _ hh => hh.walk hXY (fun r e => (hrow r e).2), h.room, h.most⟩
theorem Arg.part {w : World} {B L c : Nat} {s : List UInt8} (h : Arg w (some ⟨B, 0, none⟩) L c s) (k : Nat) : Arg w (some ⟨B, 119 * k, none⟩) (partZ L k) (partZ L k) (partL s k) := by
  have hl := h.len
  refine ⟨by rw [partL_len, ← hl], fun hx => ⟨B, 119 * k, rfl, fun j u hj => ?_⟩, fun hn a ha => ?_, Nat.le_refl _, ?_, fun h => by cases h⟩
  · have hp : 0 < s.length := by
      rw [List.length_map, partL_len] at hx
      unfold partZ at hx
      omega
    obtain ⟨g, off, hA, hc⟩ := h.reads (by rw [List.length_map]; exact hp)
    injection hA with hA
    injection hA with e1 e2 _
    subst e1 e2
    have := hc (119 * k + j) u (by
      rw [← hj]
      unfold partL
      rw [List.map_take, List.map_drop, List.getElem?_take, List.getElem?_drop, if_pos]
      have := (List.getElem?_eq_some_iff.1 hj).1
      rw [List.length_map, partL_len] at this
      unfold partZ at this
      omega)
    rw [Nat.zero_add] at this
    exact this
  · injection ha with ha
    subst ha
    have := h.old (by unfold partZ at hn; omega) ⟨B, 0, none⟩ rfl
    exact this
  · have : partZ L k ≤ 119 := Nat.min_le_right _ _
    unfold maxLen
    omega
theorem PutSt.step {s : List UInt8} {l : List Int} {W5 X w6 w7 : World} {P7 m Bs Bn c6 k : Nat} {pre : List Nat} {v v' : Value} {q : List Hd} {A6 : Option Addr} {page : List UInt8} {tmp : Obj}
    (hg : W5.grownBy X (some P7)) (hv : Boxed X P7 25 v) (ho : X.ownsRow W5.heap.size 32 1 v m (q.map Hd.v)) (hrq : ∀ x ∈ q, RowH W5.heap.size X x) (hq : lq q = pgsN s l pre) (hm : pre.length = m)
    (hp : pgsN s l (pre ++ [k]) = pgsN s l pre ++ [page]) (hpl : page.length = 128) (b6 : Below X.heap.size X w6) (r6 : Row w6 5 X.heap.size A6 (page.map byteV)) (g3 : 128 ≤ c6) (g4 : c6 ≤ maxLen)
    (hgrow : (w6.alloc tmp).grownBy w7 v.ownBlock) (hown' : w7.ownsRow W5.heap.size 32 1 v' (m + 1) (q.map Hd.v ++ [.slice A6 128 c6])) (hs : Bs < W5.heap.size) (hn : Bn < W5.heap.size) (h7s : P7 ≠ Bs) (h7n : P7 ≠ Bn) (h7 : P7 < W5.heap.size) :
    KeepsFrom W5.heap.size X (w7.setCell ⟨P7, 0, none⟩ v') ∧ KpC Bs Bn X (w7.setCell ⟨P7, 0, none⟩ v') ∧ PutSt s l W5 P7 (pre ++ [k]) (w7.setCell ⟨P7, 0, none⟩ v') := by
  have hv6 : Boxed w6 P7 25 v := (b6.block _ hv.lt).trans hv
  have ho6 := ceOwnBelow ho b6
  have hbase : W5.heap.size ≤ w6.heap.size := Nat.le_trans hg.size b6.size
  obtain ⟨hv1, hv2, hr2, hk2, _⟩ := hv6.appended (n₀ := 0) (by decide) (own_low ho6 (Nat.zero_le _)) (Nat.zero_le _) (Nat.zero_le _) (own_low hown' (Nat.zero_le _)) hgrow
  have hG6 : W5.grownBy w6 (some P7) := only_below hg b6
  have hG6a : W5.grownBy (w6.alloc tmp) (some P7) := only_below hG6 ((Below.refl _ w6).alloc (Nat.le_refl _) _)
  have hG7 : W5.grownBy w7 (some P7) := only_fresh hG6a hgrow (fun g e => (ho6.lt g e).1)
  have hG8 : W5.grownBy (w7.setCell ⟨P7, 0, none⟩ v') (some P7) := only_store hG7 0 v'
  have hK6 : KeepsFrom W5.heap.size X w6 := ⟨b6.size, fun k o _ hk _ => (b6.block k (Array.getElem?_eq_some_iff.1 hk).1).trans hk⟩
  have hst : ∀ x, RowH W5.heap.size w6 x → RowH W5.heap.size (w7.setCell ⟨P7, 0, none⟩ v') x := fun x h =>
    ⟨h.len, h.pos, ((h.row.alloc tmp).kept_own (ho6.alloc tmp) (by decide) hgrow).store (show Has w7 P7 25 #[v] from hv1) (by decide) 0 v', h.room, h.most⟩
  refine ⟨hK6.trans (hk2.from _), ⟨?_, ?_⟩, hG8, v', q ++ [⟨A6, 128, c6, page⟩], hv2, ?_, ?_, ?_⟩
  · rw [hG8.block Bs hs (fun e => h7s (by injection e with e; exact e.symm)), hg.block Bs hs (fun e => h7s (by injection e with e; exact e.symm))]
  · rw [hG8.block Bn hn (fun e => h7n (by injection e with e; exact e.symm)), hg.block Bn hn (fun e => h7n (by injection e with e; exact e.symm))]
  · rw [hd_snoc, List.length_append, hm]
    exact hown'.kept (grownBy_setCell' w7 P7 v') (.inr (hv1.not_row (by decide) hown').symm)
  · intro x hx
    rcases List.mem_append.1 hx with hx | hx
    · exact hst x ((hrq x hx).below b6)
    · obtain rfl := List.mem_singleton.1 hx
      exact hst _ ⟨hpl.symm, by show 0 < 128; decide, r6.low hg.size, g3, g4⟩
  · rw [lq_snoc, hq, hp]
end Go.Proofs.YthcjledpjlpfaaaDoor
end

section
namespace Go.Proofs.YthcjledpjlpfaaaDoor
open Go.RowKit
set_option linter.unusedVariables false

def gpN (b : List UInt8) (er : Int) (z : Nat) : List UInt8 × Int × Int :=
  if er ≠ 0 then ([], 0, er) else if (unpN b).2.2 ≠ 0 then ([], 0, (unpN b).2.2) else if (unpN b).1 ≠ 3 ∨ (unpN b).2.1.length ≠ 1 ∨ ((unpN b).2.1.headD []).length ≠ 2 + z then ([], 0, 11) else (restN b, nextN b, 0)
def GpEnd (r : List UInt8 × Int × Int) (w : World) (e : Ending) (w' : World) : Prop := e = .returned (.tuple #[.string ⟨r.1.toArray⟩, .int .i64 r.2.1, .int .i64 r.2.2]) ∧ Below w.heap.size w w'
theorem arg_content {w : World} {g : Nat} {l : List UInt8} (h : Has w g 107 (l.map byteV).toArray) (hl : l.length = 128) : Arg w (some ⟨g, 0, none⟩) 128 128 l :=
  ⟨hl.symm, fun _ => ⟨g, 0, rfl, fun j u hj => by rw [h.cell, Nat.zero_add]; simpa using hj⟩, fun _ a ha => by injection ha with ha; subst ha; exact h.lt, Nat.le_refl _, by unfold maxLen; omega, fun h => by cases h⟩
theorem numOf2_lt (l : List UInt8) : numOf (l.take 2) < 65536 := by
  have := numOf_take_lt l 2 2 (Nat.le_refl _)
  simpa using this
theorem lq_one {q : List Hd} {c : List UInt8} (h : lq q = [c]) : ∃ hd, q = [hd] ∧ hd.l = c := by
  rcases q with _ | ⟨hd, _ | ⟨x, r⟩⟩
  · cases h
  · exact ⟨hd, rfl, by simpa [lq] using h⟩
  · simp [lq] at h
section
variable {w : World} {T : Tg} {d D A : Nat} {rs : List Rg}
end

end Go.Proofs.YthcjledpjlpfaaaDoor
end

section
namespace Go.Proofs.YthcjledpjlpfaaaDoor
open Go.RowKit
set_option linter.unusedVariables false

def mayN9 (x : Int) (left : Nat) (f : Int → Option Value) : Bool := if left = 0 then decide (x = 0) else pgOk x && (f x).isNone
def GetEnd (r : List UInt8 × List Int × Int) (w : World) (e : Ending) (w' : World) : Prop := ∃ A n c, e = .returned (.tuple #[.string ⟨r.1.toArray⟩, .slice A n c, .int .i64 r.2.2]) ∧ Ints6 w' A n r.2.1 ∧ Below w.heap.size w w'
theorem GetEnd.no {r : List UInt8 × List Int × Int} {w w' : World} {er : Int} (h : r = ([], [], er)) (hb : Below w.heap.size w w') : GetEnd r w (.returned (.tuple #[.string ⟨#[]⟩, .slice none 0 0, .int .i64 er])) w' := by
  subst h
  exact ⟨none, 0, 0, rfl, ⟨rfl, Reads.empty⟩, hb⟩
theorem MapAt.own {w w' : World} {b B s n : Nat} {e : TypeId} {f : Int → Option Value} {v : Value} {xs : List Value} (h : MapAt w b f) (ho : w.ownsRow B e s v n xs) (hg : w.grownBy w' v.ownBlock) : MapAt w' b f :=
  h.keep (hg.block b h.lt (fun hq => by
    rcases ho.2 with ⟨rfl, _⟩ | ⟨g, cap, cur, rfl, _, hc, _⟩
    · cases hq
    · obtain rfl : b = g := by injection hq
      exact h.apart (show Has w b e cur from hc) rfl))
theorem MapAt.not_own {w : World} {b B s n : Nat} {e : TypeId} {f : Int → Option Value} {v : Value} {xs : List Value} (h : MapAt w b f) (ho : w.ownsRow B e s v n xs) : v.ownBlock ≠ some b := fun hq => by
  rcases ho.2 with ⟨rfl, _⟩ | ⟨g, cap, cur, rfl, _, hc, _⟩
  · cases hq
  · obtain rfl : g = b := by injection hq
    exact h.apart (show Has w g e cur from hc) rfl
theorem Ints6.of_own {w : World} {B n : Nat} {v : Value} {l : List Int} (h : w.ownsRow B 3 1 v n (l.map (Value.int .i64))) : ∃ A c, v = .slice A n c ∧ n ≤ c ∧ c ≤ maxLen ∧ Ints6 w A n l := by
  obtain ⟨A, c, rfl, h1, h2⟩ := own_sliceI h
  exact ⟨A, c, rfl, h1, h2, by have := h.1; simpa using this.symm, (Row.of_own h).reads⟩
end Go.Proofs.YthcjledpjlpfaaaDoor
end

section
namespace Go.Proofs.YthcjledpjlpfaaaDoor
open Go.RowKit
set_option linter.unusedVariables false

section
variable {w : World} {T : Tg} {d D A : Nat} {rs : List Rg}
end
end Go.Proofs.YthcjledpjlpfaaaDoor
end

section
namespace Go.Proofs.YthcjledpjlpfaaaDoor
open Go.RowKit
set_option linter.unusedVariables false

def lz (n : Nat) (ws : List Wr) : Rg := ⟨n, fun _ => none, ws, -1, false⟩
def pgW (ws : List Wr) (p : Int) : List UInt8 := match lastFrom 0 ws p with
  | some i => (ws.getD i (0, [])).2
  | none => zeros
theorem pgW_snoc (ws : List Wr) (q : Int) (b : List UInt8) (p : Int) : pgW (ws ++ [(q, b)]) p = if p = q then b else pgW ws p := by
  unfold pgW
  rw [lastFrom_snoc]
  by_cases h : p = q
  · rw [if_pos h, if_pos h]
    simp
  · rw [if_neg h, if_neg h]
    cases hl : lastFrom 0 ws p with
    | none => rfl
    | some i =>
      obtain ⟨_, x, hx, _⟩ := lastFrom_some p ws 0 i hl
      have hi := (List.getElem?_eq_some_iff.1 hx).1
      simp only
      rw [List.getD_eq_getElem?_getD, List.getD_eq_getElem?_getD, List.getElem?_append_left (by omega)]
theorem regN_at {rs : List Rg} {k : Nat} {r : Rg} (h : rs[k]? = some r) : regN rs (k : Int) = some r := by
  unfold regN
  rw [if_neg (by omega), Int.toNat_natCast, h]
theorem wrA_at {rs : List Rg} {k n : Nat} {ws : List Wr} (h : rs[k]? = some (lz n ws)) {p : Int} (h0 : 0 ≤ p) (h1 : p < n) {b : List UInt8} (hb : b.length = 128) : wrA rs (k : Int) p b = (rs.set k (lz n (ws ++ [(p, b)])), 0) := by
  rw [wrA_yes (regN_at h) rfl h0 h1 hb, if_neg (by simp [lz]), Int.toNat_natCast]
  rfl
theorem rdE_at {rs : List Rg} {k n : Nat} {ws : List Wr} (h : rs[k]? = some (lz n ws)) {p : Int} (h0 : 0 ≤ p) (h1 : p < n) : rdE rs (k : Int) p = 0 := by
  unfold rdE
  rw [regN_at h]
  simp [lz, hasB, h0, h1]
theorem rdL_at {rs : List Rg} {k n : Nat} {ws : List Wr} (h : rs[k]? = some (lz n ws)) {p : Int} (h0 : 0 ≤ p) (h1 : p < n) : rdL rs (k : Int) p = pgW ws p := by
  unfold rdL
  rw [regN_at h]
  simp only [lz, hasB, h0, h1, decide_true, Bool.and_self, if_true, Bool.false_eq_true, if_false]
  unfold rdP pgW
  cases lastFrom 0 ws p <;> rfl
def wsN (s : List UInt8) (l : List Int) (k : Nat) : List Wr := (List.range k).map fun j => (l.getD j 0, pageN s l j)
theorem getD_some {l : List Int} {j : Nat} (hj : j < l.length) : l[j]? = some (l.getD j 0) := by rw [List.getD_eq_getElem?_getD, List.getElem?_eq_getElem hj]; rfl
set_option maxRecDepth 100000 in
theorem zeros_bad : ¬ isTag zeros := by decide +kernel
theorem unp_bad {b : List UInt8} (hl : b.length = 128) (h : ¬ isTag b) : (unpN b).2.2 = 12 := by
  unfold unpN
  rw [if_neg (by omega), if_pos h]
structure PgT (w : World) (T : Tg) (A : Option Addr) (n c : Nat) (q : List Hd) : Prop where
  len : n = q.length
  hdr : SlT w T A n c (q.map Hd.v)
  each : ∀ x ∈ q, SlT w T x.a x.n x.c (x.l.map byteV) ∧ x.n = 128 ∧ x.l.length = 128
theorem PgT.below {w w' : World} {T : Tg} {A : Option Addr} {n c : Nat} {q : List Hd} (h : PgT w T A n c q) (hb : Below w.heap.size w w') : PgT w' T A n c q := ⟨h.len, h.hdr.below hb, fun x hx => ⟨(h.each x hx).1.below hb, (h.each x hx).2⟩⟩
theorem PgT.tn {w w' : World} {T T' : Tg} {A : Option Addr} {n c d : Nat} {q : List Hd} (h : PgT w T A n c q) (k : Tn T d w T' w') : PgT w' T' A n c q := ⟨h.len, h.hdr.tn k, fun x hx => ⟨(h.each x hx).1.tn k, (h.each x hx).2⟩⟩
theorem PgT.at {w : World} {T : Tg} {A : Option Addr} {n c : Nat} {q : List Hd} (h : PgT w T A n c q) {k : Nat} (hk : k < q.length) :
    ∃ g off, A = some ⟨g, off, none⟩ ∧ w.cell? ⟨g, off + k, none⟩ = some (.slice (q[k]).a (q[k]).n (q[k]).c) := by
  obtain ⟨g, off, hA, hc⟩ := h.hdr.reads (by simp; omega)
  exact ⟨g, off, hA, hc k _ (by simp [List.getElem?_eq_getElem hk, Hd.v])⟩
section
variable {w0 w : World} {T : Tg} {d D A N : Nat} {rs : List Rg}
theorem Write_p {k n c m : Nat} {ws : List Wr} {p : Int} {Ab : Option Addr} {b : List UInt8} (h : Dz w0 w T d D A N rs) (hN : N ≤ 1000) (hk : rs[k]? = some (lz n ws)) (h0 : 0 ≤ p) (h1 : p < n) (hm : m = 128) (y : SlT w T Ab m c (b.map byteV)) (hb : b.length = 128) :
    Calls Tryd.prog 18 #[.pointer (some ⟨D, 0, none⟩), .int .i64 (k : Int), .int .i64 p, .slice Ab m c] w (DzEnd (.int .i64 0) w0 w T d D A (N + 1) (rs.set k (lz n (ws ++ [(p, b)])))) := by
  subst hm
  have hw := wrA_at hk h0 h1 hb
  refine (Write_any (k : Int) p b Ab 128 c h.dk h.lo.lt hb.symm y.reads y.room (fun a ha j hj => by rw [y.un (by rw [List.length_map]; omega) a ha] at hj; cases hj) (fun r hr => Nat.le_trans (h.few r hr) hN)).mono ?_
  rintro e w' ⟨he, T', hd, ht⟩
  rw [hw] at he hd
  refine ⟨he, T', h.next ht hd ?_, ht⟩
  have := few_wrA h.few (k : Int) p b
  rw [hw] at this
  exact this
end
/-! The value of the laws. -/
def val9 (n : Nat) : List UInt8 := (List.range n).map fun i => UInt8.ofNat (7 * i)
def vrow (n k : Nat) : List UInt8 := val9 k ++ List.replicate (n - k) 0
end Go.Proofs.YthcjledpjlpfaaaDoor
end

section
namespace Go.Proofs.YthcjledpjlpfaaaDoor
open Go.RowKit
set_option linter.unusedVariables false

theorem str_byte (r : Nat) (hr : r ≤ 255) (W : World) : (convert 32 9 (.slice (some ⟨W.heap.size, 0, none⟩) 1 1)).run Tryd.prog (W.alloc (.cells #[.int .u8 (r : Int)] 5)) = .ok (.string ⟨[UInt8.ofNat r].toArray⟩) (W.alloc (.cells #[.int .u8 (r : Int)] 5)) := by
  have h := row_made W [UInt8.ofNat r]
  have e : (([UInt8.ofNat r] : List UInt8).map byteV).toArray = #[.int .u8 (r : Int)] := by simp [byteV]; omega
  rw [e] at h
  exact str_row (n := 1) (c := 1) rfl h
theorem str_byte2 (x y : Nat) (hx : x ≤ 255) (hy : y ≤ 255) (W : World) : (convert 32 9 (.slice (some ⟨W.heap.size, 0, none⟩) 2 2)).run Tryd.prog (W.alloc (.cells #[.int .u8 (x : Int), .int .u8 (y : Int)] 5)) = .ok (.string ⟨[UInt8.ofNat x, UInt8.ofNat y].toArray⟩) (W.alloc (.cells #[.int .u8 (x : Int), .int .u8 (y : Int)] 5)) := by
  have h := row_made W [UInt8.ofNat x, UInt8.ofNat y]
  have e : (([UInt8.ofNat x, UInt8.ofNat y] : List UInt8).map byteV).toArray = #[.int .u8 (x : Int), .int .u8 (y : Int)] := by simp [byteV]; omega
  rw [e] at h
  exact str_row (n := 2) (c := 2) rfl h
theorem made_zero (n : Nat) : madeCells #[.int .u8 0] n = ((List.replicate n (0 : UInt8)).map byteV).toArray := by
  apply Array.ext_getElem?
  intro i
  by_cases h : i < n
  · have h1 : (madeCells #[.int .u8 0] n)[i]? = some (.int .u8 0) := by
      have : i % 1 = 0 := Nat.mod_one i
      simp [madeCells, h, this]
    have h2 : ((List.replicate n (0 : UInt8)).map byteV).toArray[i]? = some (.int .u8 0) := by simp [h, byteV]
    rw [h1, h2]
  · rw [Array.getElem?_eq_none (by rw [size_madeCells]; omega), Array.getElem?_eq_none (by simp; omega)]
theorem str_zero (n : Nat) (W : World) : (convert 32 9 (.slice (some ⟨W.heap.size, 0, none⟩) n n)).run Tryd.prog (W.alloc (.cells (madeCells #[.int .u8 0] n) 5)) = .ok (.string ⟨(List.replicate n (0 : UInt8)).toArray⟩) (W.alloc (.cells (madeCells #[.int .u8 0] n) 5)) := by
  rw [made_zero]
  exact str_row (n := n) (c := n) (by simp) (row_made W (List.replicate n 0))

def RPackEnd (s : List UInt8) (er : Int) (w : World) (e : Ending) (w' : World) : Prop := e = .returned (.tuple #[.string ⟨s.toArray⟩, .int .i64 er]) ∧ Below w.heap.size w w'
theorem r7Pack_no (kind : UInt8) (A : Option Addr) (n c : Nat) (l : List (List UInt8)) (w : World) (h : TxtA w A n l) (hs : cSz l ≤ 1001000) (hn : ¬ cFits kind l) :
    Calls Tryd.prog 30 #[.int .u8 (kind.toNat : Int), .slice A n c] w (RPackEnd [] 1 w) := by
  have HS := Lib.hid (r7Size_any A n c l w h hs)
  by_cases hk : kind = 0
  · subst hk
    go_enter Tryd.func30, Tryd.ntmps30
    go_wp2
    go_ret2
    exact ⟨rfl, Below.refl _ _⟩
  · have hk0 : ((kind.toNat : Int) == 0) = false := beq_false_of_ne (fun e => hk (UInt8.toNat_inj.1 (by simpa using e)))
    have hz : 122 < cSz l := by
      unfold cFits at hn
      have : ¬ cSz l ≤ 122 := fun e => hn ⟨hk, e⟩
      omega
    clear hn h hs
    have e2 : decide (122 < (cSz l : Int)) = true := by simp; omega
    go_enter Tryd.func30, Tryd.ntmps30
    go_wp2_with (go_at_call 48; refine HS.out.mono ?_; rintro e w1 ⟨rfl, rfl⟩)
    go_ret2
    exact ⟨rfl, Below.refl _ _⟩

set_option maxRecDepth 100000 in
set_option maxHeartbeats 4000000 in
theorem r7Pack_yes (kind : UInt8) (A : Option Addr) (n c : Nat) (l : List (List UInt8)) (w : World) (h : TxtA w A n l) (hy : cFits kind l) :
    Calls Tryd.prog 30 #[.int .u8 (kind.toNat : Int), .slice A n c] w (RPackEnd (cPage kind l) 0 w) := by
  have HS := Lib.hid (r7Size_any A n c l w h (by have := hy.2; omega))
  have HA := Lib.hid h
  have HL := Lib.hid h.len
  have hk0 : ((kind.toNat : Int) == 0) = false := beq_false_of_ne (fun e => hy.1 (UInt8.toNat_inj.1 (by simpa using e)))
  have hz := hy.2
  have hn : n ≤ 122 := by have := cSz_len l; have := h.len; omega
  have hkl := kind.toNat_lt
  have e2 : decide (122 < (cSz l : Int)) = false := by simp; omega
  clear h hy
  go_enter Tryd.func30, Tryd.ntmps30
  go_wp2_with (go_at_call 48; refine HS.out.mono ?_; rintro e w1 ⟨rfl, rfl⟩)
  go_loopw [6, 7, 8] (fun s b i wr => ∃ k : Nat, k ≤ n ∧ i = .int .i64 k ∧ s = .string ⟨(cSlots 128 (l.take k)).toArray⟩ ∧ b = .string ⟨(cBack (l.take k)).toArray⟩ ∧ Below w.heap.size w wr) (fun _ _ i _ => n - (intOf i).toNat)
  case atStart => exact ⟨0, Nat.zero_le _, rfl, rfl, rfl, Below.refl _ _⟩
  case round =>
    obtain ⟨k, hk, rfl, rfl, rfl, hB⟩ := hrel
    have HB := Lib.hid hB
    by_cases hlt : k < n
    · have hkl2 : k < l.length := by rw [← HL.out]; exact hlt
      obtain ⟨g, off, rfl, hc⟩ := (HA.out.below hB).at hkl2
      have hm := cSz_more (List.getElem?_eq_getElem hkl2)
      have hme := cSz_take l (k + 1)
      have hbl := cBack_len (l.take k)
      have hta := List.take_succ_eq_append_getElem hkl2
      generalize l[k] = y at *
      have n1 : cSlots 128 (l.take (k + 1)) = cSlots 128 (l.take k) ++ [UInt8.ofNat (128 - (cBack (l.take k)).length - y.length)] := by rw [hta, cSlots_snoc]
      have n2 : cBack (l.take (k + 1)) = y ++ cBack (l.take k) := by rw [hta, cBack_snoc]
      have N1 := Lib.hid n1
      have N2 := Lib.hid n2
      have hs0 : (cSlots 128 (l.take k)).length ≤ 122 := by rw [cSlots_len, List.length_take]; omega
      have hb0 : (cBack (l.take k)).length + y.length ≤ 122 := by omega
      clear hB n1 n2 hta hbl hme hm hkl2
      obtain ⟨S, hS⟩ : ∃ S, cSlots 128 (l.take k) = S := ⟨_, rfl⟩
      obtain ⟨B, hBk⟩ : ∃ B, cBack (l.take k) = B := ⟨_, rfl⟩
      rw [hS] at hs0 N1 ⊢
      rw [hBk] at hb0 N1 N2 ⊢
      clear hS hBk
      have hyb : ((⟨y.toArray⟩ : ByteArray) ++ ⟨B.toArray⟩) = ⟨(y ++ B).toArray⟩ := str_app y ⟨B.toArray⟩
      have hzl : ((⟨(y ++ B).toArray⟩ : ByteArray)).size = y.length + B.length := by rw [size_list, List.length_append]
      obtain ⟨r, hr⟩ : ∃ r, 128 - B.length - y.length = r := ⟨_, rfl⟩
      have hpr : (128 : Int) - ((y.length : Int) + (B.length : Int)) = (r : Int) := by omega
      have hr1 : r ≤ 255 := by omega
      have hsb := str_byte r hr1
      have hss : ((⟨S.toArray⟩ : ByteArray) ++ ⟨[UInt8.ofNat r].toArray⟩) = ⟨(S ++ [UInt8.ofNat r]).toArray⟩ := str_app S ⟨[UInt8.ofNat r].toArray⟩
      rw [hr] at N1
      clear hr
      have hyl : y.length ≤ 122 := by omega
      have hBl : B.length ≤ 122 := by omega
      go_wp2
      go_roundw
      case rel => exact ⟨k + 1, by omega, by go_num, str_eq2 (by rw [N1.out]), str_eq2 (by rw [N2.out]), HB.out.alloc HB.out.size _⟩
      case measure => simp [intOf]; omega
    · obtain rfl : k = n := by omega
      have htk : l.take k = l := List.take_of_length_le (by rw [← HL.out]; exact Nat.le_refl _)
      rw [htk]
      have HBD : Hid (cPage kind l = tagB ([kind, UInt8.ofNat k] ++ cSlots 128 l ++ (List.replicate (122 - cSz l) 0 ++ cBack l))) := Lib.hid (by
        unfold cPage cBody
        rw [← HL.out]
        simp)
      have hbl := cBack_len l
      have hsl := cSlots_len l 128
      have HKL : Hid (l.length = k) := Lib.hid HL.out.symm
      obtain ⟨S, hS⟩ : ∃ S, cSlots 128 l = S := ⟨_, rfl⟩
      obtain ⟨B, hBk⟩ : ∃ B, cBack l = B := ⟨_, rfl⟩
      rw [hS, hBk] at HBD
      rw [hS] at hsl ⊢
      rw [hBk] at hbl ⊢
      rw [← HL.out] at hsl hbl
      clear hS hBk htk
      obtain ⟨wo, hwo⟩ : ∃ wo : World, wo = wr := ⟨_, rfl⟩
      subst hwo
      have hs2 := fun W => str_byte2 kind.toNat k (by omega) (by omega) W
      rw [UInt8.ofNat_toNat] at hs2
      have hss : ((⟨[kind, UInt8.ofNat k].toArray⟩ : ByteArray) ++ ⟨S.toArray⟩) = ⟨([kind, UInt8.ofNat k] ++ S).toArray⟩ := str_app _ ⟨S.toArray⟩
      obtain ⟨m, hm⟩ : ∃ m, 122 - cSz l = m := ⟨_, rfl⟩
      have hme : (124 : Int) - ((k : Int) + 1 + 1) - (B.length : Int) = (m : Int) := by omega
      have hml : m ≤ 122 := by omega
      have hmk := fun W => make_bytes m (by omega) W
      have hst := str_zero m
      have hzl : (List.replicate m (0 : UInt8)).length ≤ 122 := by rw [List.length_replicate]; exact hml
      rw [hm] at HBD
      clear hm
      obtain ⟨Z, hZ⟩ : ∃ Z, List.replicate m (0 : UInt8) = Z := ⟨_, rfl⟩
      rw [hZ] at HBD hst hzl
      clear hZ
      have hst1 := hst (wo.alloc (.cells #[.int .u8 (kind.toNat : Int), .int .u8 (k : Int)] 5))
      have e9 : (wo.alloc (.cells #[.int .u8 (kind.toNat : Int), .int .u8 (k : Int)] 5)).heap.size = wo.heap.size + 1 := by simp
      rw [e9] at hst1
      clear e9 hst
      obtain ⟨T, hT⟩ : ∃ T, [kind, UInt8.ofNat k] ++ S ++ (Z ++ B) = T := ⟨_, rfl⟩
      have hX : (⟨(kind :: UInt8.ofNat k :: S).toArray⟩ : ByteArray) ++ (⟨Z.toArray⟩ ++ ⟨B.toArray⟩) = ⟨T.toArray⟩ := by
        rw [← hT]
        apply ByteArray.ext
        simp
      have hTl : T.length ≤ 1000 := by
        rw [← hT]
        simp only [List.length_append, List.length_cons, List.length_nil]
        omega
      rw [hT] at HBD
      have hSZ : (⟨T.toArray⟩ : ByteArray).size ≤ 1000000 := by rw [size_list]; omega
      have hol := ofN_lt T
      have HOF := Lib.hid (fun W => r2Of_any ⟨T.toArray⟩ W hSZ)
      have HNM := Lib.hid (fun W => rNum_yes (ofN T) 4 W (by omega) (by omega) (by omega))
      have hnl : (numB (ofN T) 4).length ≤ 4 := by rw [numB_len]; omega
      have HTG : Hid (tagB T = numB (ofN T) 4 ++ T) := Lib.hid rfl
      clear hT hSZ
      generalize ofN T = f at *
      generalize numB f 4 = NB at *
      go_wp2_with (first
        | (go_at_call 49; refine (HOF.out _).mono ?_; rintro e w1 ⟨rfl, rfl⟩)
        | (go_at_call 29; refine (HNM.out _).mono ?_; rintro e w2 ⟨rfl, h2⟩; have B2 := Lib.hid h2; clear h2))
      go_ret2
      refine ⟨by rw [HBD.out, HTG.out]; first | rfl | simp, ?_⟩
      exact below_step ((HB.out.alloc HB.out.size _).alloc (by have := HB.out.size; simp; omega) _) B2.out

end Go.Proofs.YthcjledpjlpfaaaDoor
end

section
namespace Go.Proofs.YthcjledpjlpfaaaDoor
open Go.RowKit
set_option linter.unusedVariables false

def RUnpRow (r : UInt8 × List (List UInt8) × Int) (w : World) (e : Ending) (w' : World) : Prop :=
  ∃ A n c, e = .returned (.tuple #[.int .u8 (r.1.toNat : Int), .slice A n c, .int .i64 r.2.2]) ∧ TxtA w' A n r.2.1 ∧ Below w.heap.size w w' ∧ Row w' 9 w.heap.size A (r.2.1.map cstV)
theorem RUnpRow.no {w w' : World} {er : Int} (h : Below w.heap.size w w') : RUnpRow (0, [], er) w (.returned (.tuple #[.int .u8 0, .slice none 0 0, .int .i64 er])) w' := ⟨none, 0, 0, rfl, ⟨rfl, Reads.empty⟩, h, Row.empty⟩
theorem r7Unpack_len (s : ByteArray) (w : World) (hs : s.size ≤ 1000000) (hl : s.size ≠ 128) :
    Calls Tryd.prog 44 #[.string s] w (RUnpRow (unpN s.data.toList) w) := by
  have hu : unpN s.data.toList = (0, [], 1) := by unfold unpN; rw [if_pos (show s.data.toList.length ≠ 128 from hl)]
  have hne : ((s.size : Int) != 128) = true := by simp; omega
  rw [hu]
  go_enter Tryd.func44, Tryd.ntmps44
  go_wp2
  go_ret3
  exact RUnpRow.no (Below.refl _ _)
theorem ext_cut (s : ByteArray) (a e : Nat) : s.extract a e = ⟨((s.data.toList.drop a).take (e - a)).toArray⟩ := by
  apply ByteArray.ext
  apply Array.ext'
  simp only [ByteArray.data_extract, Array.toList_extract, List.extract_eq_take_drop]
theorem isTag_four (b : List UInt8) (h : 4 ≤ b.length) : isTag b ↔ numB (ofN (b.drop 4)) 4 = b.take 4 := by
  constructor
  · intro ht
    have := congrArg (List.take 4) ht.2
    unfold tagB at this
    rwa [List.take_append_of_le_length (by rw [numB_len]; omega), List.take_of_length_le (by rw [numB_len]; omega)] at this
  · intro he
    refine ⟨h, ?_⟩
    unfold tagB
    rw [he, List.take_append_drop]

set_option maxRecDepth 100000 in
set_option maxHeartbeats 4000000 in
theorem r7Unpack_sum (s : ByteArray) (w : World) (hl : s.size = 128) (hg : ¬ isTag s.data.toList) :
    Calls Tryd.prog 44 #[.string s] w (RUnpRow (unpN s.data.toList) w) := by
  have hmx : Tryd.prog.follows .mixedOrders = true := by kernel_rfl
  have hln : s.data.toList.length = 128 := hl
  have hu : unpN s.data.toList = (0, [], 12) := by unfold unpN; rw [if_neg (by simpa using hln), if_pos hg]
  rw [hu]
  obtain ⟨T4, hT4⟩ : ∃ T, s.data.toList.take 4 = T := ⟨_, rfl⟩
  obtain ⟨T5, hT5⟩ : ∃ T, s.data.toList.drop 4 = T := ⟨_, rfl⟩
  have he0 : s.extract 0 4 = ⟨T4.toArray⟩ := by rw [ext_cut, ← hT4]; rfl
  have he4 : s.extract 4 128 = ⟨T5.toArray⟩ := by rw [ext_cut, ← hT5, List.take_of_length_le (by rw [List.length_drop]; omega)]
  have hT5l : T5.length ≤ 1000 := by rw [← hT5, List.length_drop]; omega
  rw [isTag_four _ (by omega), hT4, hT5] at hg
  have HOF := Lib.hid (fun W => r2Of_any ⟨T5.toArray⟩ W (by rw [size_list]; omega))
  have hfl := ofN_lt T5
  have HNM := Lib.hid (fun W => rNum_yes (ofN T5) 4 W (by omega) (by omega) (by omega))
  obtain ⟨f, hf⟩ : ∃ f, ofN T5 = f := ⟨_, rfl⟩
  simp only [hf] at HOF HNM hg hfl
  obtain ⟨NB, hNB⟩ : ∃ NB, numB f 4 = NB := ⟨_, rfl⟩
  simp only [hNB] at HNM hg
  have hwf : IntKind.u64.wrap (f : Int) = (f : Int) := IntWalk.u64_in _ (by omega)
  have hq : (NB == T4) = false := by simpa using hg
  clear hg hT4 hT5 hNB hf
  go_enter Tryd.func44, Tryd.ntmps44
  go_wp2
  rename_i K hK
  refine wp_held (fun w' : World => True) K hmx ?_ (fun _ _ h => h)
  refine wpAnyH_take (i := 0) (v := .string s) rfl (by kernel_rfl) (by kernel_rfl) (by kernel_rfl) (fun _ _ _ h => h) (Or.inl ⟨by rfl, ?_⟩) trivial ?_
  · rintro w6 s1
    go_simp
  simp only [Act.put, List.setIfInBounds_toArray, List.set_cons_zero, List.set_cons_succ, List.getElem_toArray, List.getElem_cons_zero]
  refine wpAnyH_take (i := 1) (v := .string ⟨T5.toArray⟩) rfl (by kernel_rfl) (by kernel_rfl) (by kernel_rfl) (fun _ _ _ h => h) (Or.inl ⟨by rfl, ?_⟩) trivial ?_
  · rintro w6 s1
    go_simp
  simp only [Act.put, List.setIfInBounds_toArray, List.set_cons_zero, List.set_cons_succ, List.getElem_toArray, List.getElem_cons_zero, List.getElem_cons_succ]
  refine wpAnyH_take (i := 5) (v := .string s) rfl (by kernel_rfl) (by kernel_rfl) (by kernel_rfl) (fun _ _ _ h => h) (Or.inl ⟨by rfl, ?_⟩) trivial ?_
  · rintro w6 s1
    go_simp
  simp only [Act.put, List.setIfInBounds_toArray, List.set_cons_zero, List.set_cons_succ, List.getElem_toArray, List.getElem_cons_zero, List.getElem_cons_succ]
  refine wpAnyH_take (i := 6) (v := .string ⟨T4.toArray⟩) rfl (by kernel_rfl) (by kernel_rfl) (by kernel_rfl) (fun _ _ _ h => h) (Or.inl ⟨by rfl, ?_⟩) trivial ?_
  · rintro w6 s1
    go_simp
  simp only [Act.put, List.setIfInBounds_toArray, List.set_cons_zero, List.set_cons_succ, List.getElem_toArray, List.getElem_cons_zero, List.getElem_cons_succ]
  refine wpAnyH_ready (rs := [2]) (by kernel_rfl) (by simp) ?_
  refine AllReadyH.cons rfl (fun K5 hK5 => ?_) AllReadyH.nil
  go_simp
  go_at_call 49
  refine (HOF.out _).mono ?_
  rintro e w1 ⟨rfl, rfl⟩
  refine hK5.out _ _ trivial (fun _ => ?_)
  clear hK5 K5
  refine wpAnyH_take (i := 3) (v := .int .u64 (f : Int)) rfl (by kernel_rfl) (by kernel_rfl) (by kernel_rfl) (fun _ _ _ h => h) (Or.inl ⟨by rfl, ?_⟩) trivial ?_
  · rintro w6 s1
    go_simp
  simp only [Act.put, List.setIfInBounds_toArray, List.set_cons_zero, List.set_cons_succ, List.getElem_toArray, List.getElem_cons_zero, List.getElem_cons_succ]
  refine wpAnyH_ready (rs := [4]) (by kernel_rfl) (by simp) ?_
  refine AllReadyH.cons rfl (fun K5 hK5 => ?_) AllReadyH.nil
  go_simp
  go_at_call 29
  refine (HNM.out _).mono ?_
  rintro e w2 ⟨rfl, k2⟩
  refine hK5.out _ _ trivial (fun _ => ?_)
  clear hK5 K5
  refine wpAnyH_take (i := 7) (v := .bool true) rfl (by kernel_rfl) (by kernel_rfl) (by kernel_rfl) (fun _ _ _ h => h) (Or.inl ⟨by rfl, ?_⟩) trivial ?_
  · rintro w6 s1
    go_simp
  simp only [Act.put, List.setIfInBounds_toArray, List.set_cons_zero, List.set_cons_succ, List.getElem_toArray, List.getElem_cons_zero, List.getElem_cons_succ]
  refine wpAnyH_done (by kernel_rfl) ?_ _
  refine hK _ _ ?_
  go_wp2
  go_ret3
  exact RUnpRow.no (by have := k2; exact below_step (Below.refl _ w).drew k2)

theorem idx_str (s : ByteArray) (i : Nat) (x : UInt8) (h : s.data.toList[i]? = some x) : ∃ hi : i < s.size, (s[i]'hi).toNat = x.toNat := by
  obtain ⟨h1, h2⟩ := List.getElem?_eq_some_iff.1 h
  exact ⟨h1, congrArg UInt8.toNat h2⟩
def RUnpSt (w : World) (b : List UInt8) (k : Nat) (v e : Value) (wr : World) : Prop :=
  ∃ (end_ : Nat) (done : List (List UInt8)), e = .int .i64 end_ ∧ end_ ≤ 128 ∧ done.length = k ∧ done ++ cCut b ((cSlotsOf b).drop k) end_ = cCells b ∧ wr.ownsRow w.heap.size 9 1 v k (done.map cstV) ∧ Below w.heap.size w wr
theorem slots_at (b : List UInt8) (hb : b.length = 128) (k : Nat) (hk : k < cCount b) (h6 : 6 + k < 128) : ∃ x, b[6 + k]? = some x ∧ (cSlotsOf b)[k]? = some x := by
  refine ⟨_, List.getElem?_eq_getElem (by omega), ?_⟩
  unfold cSlotsOf
  rw [List.getElem?_take, if_pos hk, List.getElem?_drop, List.getElem?_eq_getElem]
theorem few_slots (b : List UInt8) (hb : b.length = 128) : (cCells b).length ≤ 122 := by
  unfold cCells
  refine Nat.le_trans (cCut_len _ _ _) ?_
  unfold cSlotsOf
  rw [List.length_take, List.length_drop, hb]
  omega
theorem cut_short (b : List UInt8) (hb : b.length = 128) : ∀ c ∈ cCells b, c.length ≤ 128 := by
  have hall : ∀ (ss : List UInt8) (e : Nat), ∀ y ∈ cCut b ss e, y.length ≤ 128 := by
    intro ss
    induction ss with
    | nil => intro e y hy; simp [cCut] at hy
    | cons s ss ih =>
      intro e y hy
      simp only [cCut] at hy
      split at hy
      · cases hy
      · rcases List.mem_cons.1 hy with rfl | hy
        · rw [List.length_take, List.length_drop]
          omega
        · exact ih _ _ hy
  exact fun c hc => hall _ _ c hc

set_option maxRecDepth 100000 in
set_option maxHeartbeats 8000000 in
theorem r7Unpack_page (s : ByteArray) (w : World) (hl : s.size = 128) (hg : isTag s.data.toList) :
    Calls Tryd.prog 44 #[.string s] w (RUnpRow (unpN s.data.toList) w) := by
  have hmx : Tryd.prog.follows .mixedOrders = true := by kernel_rfl
  obtain ⟨j0, hj, jz0, jz1, jz2⟩ := info_parts stinfo
  have hln : s.data.toList.length = 128 := hl
  have HG := Lib.hid hg
  obtain ⟨T4, hT4⟩ : ∃ T, s.data.toList.take 4 = T := ⟨_, rfl⟩
  obtain ⟨T5, hT5⟩ : ∃ T, s.data.toList.drop 4 = T := ⟨_, rfl⟩
  have he0 : s.extract 0 4 = ⟨T4.toArray⟩ := by rw [ext_cut, ← hT4]; rfl
  have he4 : s.extract 4 128 = ⟨T5.toArray⟩ := by rw [ext_cut, ← hT5, List.take_of_length_le (by rw [List.length_drop]; omega)]
  have hT5l : T5.length ≤ 1000 := by rw [← hT5, List.length_drop]; omega
  rw [isTag_four _ (by omega), hT4, hT5] at hg
  have HOF := Lib.hid (fun W => r2Of_any ⟨T5.toArray⟩ W (by rw [size_list]; omega))
  have hfl := ofN_lt T5
  have HNM := Lib.hid (fun W => rNum_yes (ofN T5) 4 W (by omega) (by omega) (by omega))
  obtain ⟨f, hf⟩ : ∃ f, ofN T5 = f := ⟨_, rfl⟩
  simp only [hf] at HOF HNM hg hfl
  obtain ⟨NB, hNB⟩ : ∃ NB, numB f 4 = NB := ⟨_, rfl⟩
  simp only [hNB] at HNM hg
  have hwf : IntKind.u64.wrap (f : Int) = (f : Int) := IntWalk.u64_in _ (by omega)
  have hq : (NB == T4) = true := by simpa using hg
  clear hg hT4 hT5 hNB hf
  obtain ⟨x, hx⟩ : ∃ x, s.data.toList[4]? = some x := ⟨_, List.getElem?_eq_getElem (by omega)⟩
  obtain ⟨y, hy⟩ : ∃ y, s.data.toList[5]? = some y := ⟨_, List.getElem?_eq_getElem (by omega)⟩
  have HX : Hid (cKind s.data.toList = x) := Lib.hid (by unfold cKind; rw [hx]; rfl)
  have HY : Hid (cCount s.data.toList = y.toNat) := Lib.hid (by unfold cCount; rw [hy]; rfl)
  obtain ⟨hi4, hx4⟩ := idx_str s 4 x hx
  obtain ⟨hi5, hy5⟩ := idx_str s 5 y hy
  have HL := Lib.hid hln
  have HIX := Lib.hid (fun i x h => idx_str s i x h)
  have HEC := Lib.hid (fun a e => ext_cut s a e)
  obtain ⟨b, hb⟩ : ∃ b, s.data.toList = b := ⟨_, rfl⟩
  rw [hb] at HX HY HL HG HIX HEC ⊢
  have HSB : Hid (s.toList = b) := Lib.hid (by rw [ByteArray.toList_eq]; exact hb)
  have HSL := Lib.hid (fun k hk h6 => slots_at b HL.out k hk h6)
  have hyl := y.toNat_lt
  have hxl := x.toNat_lt
  clear hln hx hy hb
  obtain ⟨n, hn⟩ : ∃ n, y.toNat = n := ⟨_, rfl⟩
  rw [hn] at HY hy5 hyl
  clear hn
  go_enter Tryd.func44, Tryd.ntmps44
  go_wp2
  rename_i K hK
  refine wp_held (fun w' : World => True) K hmx ?_ (fun _ _ h => h)
  refine wpAnyH_take (i := 0) (v := .string s) rfl (by kernel_rfl) (by kernel_rfl) (by kernel_rfl) (fun _ _ _ h => h) (Or.inl ⟨by rfl, ?_⟩) trivial ?_
  · rintro w6 s1
    go_simp
  simp only [Act.put, List.setIfInBounds_toArray, List.set_cons_zero, List.set_cons_succ, List.getElem_toArray, List.getElem_cons_zero]
  refine wpAnyH_take (i := 1) (v := .string ⟨T5.toArray⟩) rfl (by kernel_rfl) (by kernel_rfl) (by kernel_rfl) (fun _ _ _ h => h) (Or.inl ⟨by rfl, ?_⟩) trivial ?_
  · rintro w6 s1
    go_simp
  simp only [Act.put, List.setIfInBounds_toArray, List.set_cons_zero, List.set_cons_succ, List.getElem_toArray, List.getElem_cons_zero, List.getElem_cons_succ]
  refine wpAnyH_take (i := 5) (v := .string s) rfl (by kernel_rfl) (by kernel_rfl) (by kernel_rfl) (fun _ _ _ h => h) (Or.inl ⟨by rfl, ?_⟩) trivial ?_
  · rintro w6 s1
    go_simp
  simp only [Act.put, List.setIfInBounds_toArray, List.set_cons_zero, List.set_cons_succ, List.getElem_toArray, List.getElem_cons_zero, List.getElem_cons_succ]
  refine wpAnyH_take (i := 6) (v := .string ⟨T4.toArray⟩) rfl (by kernel_rfl) (by kernel_rfl) (by kernel_rfl) (fun _ _ _ h => h) (Or.inl ⟨by rfl, ?_⟩) trivial ?_
  · rintro w6 s1
    go_simp
  simp only [Act.put, List.setIfInBounds_toArray, List.set_cons_zero, List.set_cons_succ, List.getElem_toArray, List.getElem_cons_zero, List.getElem_cons_succ]
  refine wpAnyH_ready (rs := [2]) (by kernel_rfl) (by simp) ?_
  refine AllReadyH.cons rfl (fun K5 hK5 => ?_) AllReadyH.nil
  go_simp
  go_at_call 49
  refine (HOF.out _).mono ?_
  rintro e w1 ⟨rfl, rfl⟩
  refine hK5.out _ _ trivial (fun _ => ?_)
  clear hK5 K5
  refine wpAnyH_take (i := 3) (v := .int .u64 (f : Int)) rfl (by kernel_rfl) (by kernel_rfl) (by kernel_rfl) (fun _ _ _ h => h) (Or.inl ⟨by rfl, ?_⟩) trivial ?_
  · rintro w6 s1
    go_simp
  simp only [Act.put, List.setIfInBounds_toArray, List.set_cons_zero, List.set_cons_succ, List.getElem_toArray, List.getElem_cons_zero, List.getElem_cons_succ]
  refine wpAnyH_ready (rs := [4]) (by kernel_rfl) (by simp) ?_
  refine AllReadyH.cons rfl (fun K5 hK5 => ?_) AllReadyH.nil
  go_simp
  go_at_call 29
  refine (HNM.out _).mono ?_
  rintro e w2 ⟨rfl, k2⟩
  refine hK5.out _ _ trivial (fun _ => ?_)
  clear hK5 K5
  refine wpAnyH_take (i := 7) (v := .bool false) rfl (by kernel_rfl) (by kernel_rfl) (by kernel_rfl) (fun _ _ _ h => h) (Or.inl ⟨by rfl, ?_⟩) trivial ?_
  · rintro w6 s1
    go_simp
  simp only [Act.put, List.setIfInBounds_toArray, List.set_cons_zero, List.set_cons_succ, List.getElem_toArray, List.getElem_cons_zero, List.getElem_cons_succ]
  refine wpAnyH_done (by kernel_rfl) ?_ _
  refine hK _ _ ?_
  go_wp2
  have k2 := Lib.hid (below_step (Below.refl _ w).drew k2)
  go_loopw [6, 7, 8] (fun e v i wr => ∃ k : Nat, k ≤ n ∧ i = .int .i64 k ∧ RUnpSt w b k v e wr) (fun _ _ i _ => n - (intOf i).toNat)
  case atStart => exact ⟨0, Nat.zero_le _, rfl, 128, [], rfl, Nat.le_refl _, rfl, rfl, st_own_nil _ _, k2.out⟩
  case round =>
    obtain ⟨k, hk, rfl, hST⟩ := hrel
    have ST := Lib.hid hST
    clear hST
    by_cases hlt : k < n
    · obtain ⟨end_, done, rfl, he, hqk, hcut, hO, hB⟩ := ST.out
      have HO := Lib.hid hO
      have HB := Lib.hid hB
      have HQ := Lib.hid hqk
      have HCT := Lib.hid hcut
      clear hO hB hqk hcut
      by_cases h6 : 6 + k < 128
      · obtain ⟨sl, hs1, hs2⟩ := HSL.out k (by rw [HY.out]; exact hlt) h6
        obtain ⟨hik, hkv⟩ := HIX.out (6 + k) sl hs1
        have hsl := sl.toNat_lt
        by_cases hse : sl.toNat ≤ end_
        · have CC := Lib.hid (cCut_cons b (cSlotsOf b) k end_ sl hs2 hse)
          clear hs1 hs2
          generalize sl.toNat = t at *
          have hext := HEC.out t end_
          obtain ⟨C, hC⟩ : ∃ C, (b.drop t).take (end_ - t) = C := ⟨_, rfl⟩
          rw [hC] at CC hext
          clear hC
          have b1 : ¬ ((end_ : Int) < (t : Int)) := by omega
          obtain ⟨sz, hsz⟩ : ∃ z : ByteArray, (⟨C.toArray⟩ : ByteArray) = z := ⟨_, rfl⟩
          have HCS : Hid (cstV C = .string sz) := Lib.hid (by rw [← hsz]; rfl)
          rw [hsz] at hext
          clear hsz
          go_wp2_with (at_builtin; refine wpList_append_one rfl _ _ 29 9 rfl w.heap.size 9 j0 _ 16 Tryd.underlying29 hj jz0 jz1 jz2 rfl _ k _ rfl HO.out (.string sz) rfl rfl ?_ ?_ ?_ ?_; (omega); (unfold maxLen; omega); (exact HB.out.size); intro v4 w4 h7 h8; have O4 := Lib.hid h7; have B4 := Lib.hid (HB.out.trans h8); clear h7 h8)
          go_roundw
          case rel =>
            refine ⟨k + 1, by omega, by go_num, t, done ++ [C], rfl, by omega, by simp [HQ.out], ?_, ?_, B4.out⟩
            · have h1 := HCT.out
              rw [CC.out] at h1
              rw [List.append_assoc]
              exact h1
            · rw [List.map_append, List.map_cons, List.map_nil, HCS.out]
              exact O4.out
          case measure => simp [intOf]; omega
        · have HU : Hid (unpN b = (0, [], 11)) := Lib.hid (unpN_no HL.out HG.out (fun h => by
            have h1 := cForm_count h
            have h2 := HCT.out
            rw [cCut_stop b (cSlotsOf b) k end_ sl hs2 hse, List.append_nil] at h2
            rw [← h2, HQ.out, HY.out] at h1
            omega))
          rw [HU.out]
          clear hs1 hs2
          generalize sl.toNat = t at *
          have b1 : (end_ : Int) < (t : Int) := by omega
          obtain ⟨w3, hw3⟩ : ∃ w3 : World, w3 = wr := ⟨_, rfl⟩
          subst hw3
          go_wp2
          go_ret3
          exact RUnpRow.no HB.out
      · have HU : Hid (unpN b = (0, [], 11)) := Lib.hid (unpN_no HL.out HG.out (fun h => by
          have h1 := cForm_count h
          have h2 := few_slots b HL.out
          rw [HY.out] at h1
          omega))
        rw [HU.out]
        have b6 : (128 : Int) ≤ 6 + (k : Int) := by omega
        obtain ⟨w3, hw3⟩ : ∃ w3 : World, w3 = wr := ⟨_, rfl⟩
        subst hw3
        go_wp2
        go_ret3
        exact RUnpRow.no HB.out
    · obtain ⟨end_, done, rfl, he, hqk, hcut, hO, hB⟩ := ST.out
      obtain rfl : k = n := by omega
      have hnil : (cSlotsOf b).drop k = [] := List.drop_eq_nil_of_le (by unfold cSlotsOf; rw [List.length_take, HY.out]; omega)
      rw [hnil] at hcut
      have hdn : done = cCells b := by rw [← hcut]; simp [cCut]
      subst hdn
      obtain ⟨A2, c2, rfl, _, hT⟩ := TxtA.of_own hO
      have HRW := Lib.hid (Row.of_own hO)
      have HB := Lib.hid hB
      have HT := Lib.hid hT
      clear hO hB hT hnil hcut hqk
      obtain ⟨w3, hw3⟩ : ∃ w3 : World, w3 = wr := ⟨_, rfl⟩
      subst hw3
      by_cases hy : cFits x (cCells b)
      · have HP := Lib.hid (r7Pack_yes x A2 k c2 (cCells b) w3 HT.out hy)
        have HPL := Lib.hid (cPage_len x (cCells b) hy.2)
        have hpl : (cPage x (cCells b)).length ≤ 1000 := by rw [HPL.out]; omega
        by_cases hee : cPage x (cCells b) = b
        · have HU : Hid (unpN b = (x, cCells b, 0)) := Lib.hid (by rw [unpN_yes HL.out HG.out ⟨by rw [HX.out]; exact hy, by rw [HX.out]; exact hee⟩, HX.out])
          have hqq : (cPage x (cCells b) == s.toList) = true := by rw [HSB.out, hee]; simp
          clear hy hee
          generalize cPage x (cCells b) = PG at *
          go_wp2_with (go_at_call 30; refine HP.out.mono ?_; rintro e w4 ⟨rfl, b4⟩; have B4 := Lib.hid b4; clear b4)
          go_ret3
          rw [HU.out]
          exact ⟨A2, k, c2, rfl, HT.out.below B4.out, below_step HB.out B4.out, HRW.out.below B4.out⟩
        · have HU : Hid (unpN b = (0, [], 11)) := Lib.hid (unpN_no HL.out HG.out (fun h => hee (by have := h.2; rwa [HX.out] at this)))
          have hqq : (cPage x (cCells b) == s.toList) = false := by rw [HSB.out]; simpa using hee
          clear hy hee
          generalize cPage x (cCells b) = PG at *
          go_wp2_with (go_at_call 30; refine HP.out.mono ?_; rintro e w4 ⟨rfl, b4⟩; have B4 := Lib.hid b4; clear b4)
          go_ret3
          rw [HU.out]
          exact RUnpRow.no (below_step HB.out B4.out)
      · have HP := Lib.hid (r7Pack_no x A2 k c2 (cCells b) w3 HT.out (by
          have := cSz_few (cCells b) 122 128 (few_slots b HL.out) (fun c hc => cut_short b HL.out c hc)
          omega) hy)
        have HU : Hid (unpN b = (0, [], 11)) := Lib.hid (unpN_no HL.out HG.out (fun h => hy (by have := h.1; rwa [HX.out] at this)))
        clear hy
        go_wp2_with (go_at_call 30; refine HP.out.mono ?_; rintro e w4 ⟨rfl, b4⟩; have B4 := Lib.hid b4; clear b4)
        go_ret3
        rw [HU.out]
        exact RUnpRow.no (below_step HB.out B4.out)

theorem r7Unpack_row (s : ByteArray) (w : World) (hs : s.size ≤ 1000000) : Calls Tryd.prog 44 #[.string s] w (RUnpRow (unpN s.data.toList) w) := by
  by_cases hl : s.size = 128
  · by_cases hg : isTag s.data.toList
    · exact r7Unpack_page s w hl hg
    · exact r7Unpack_sum s w hl hg
  · exact r7Unpack_len s w hs hl


def RUnpEnd (r : UInt8 × List (List UInt8) × Int) (w : World) (e : Ending) (w' : World) : Prop :=
  ∃ A n c, e = .returned (.tuple #[.int .u8 (r.1.toNat : Int), .slice A n c, .int .i64 r.2.2]) ∧ TxtA w' A n r.2.1 ∧ Below w.heap.size w w'
end Go.Proofs.YthcjledpjlpfaaaDoor
end
