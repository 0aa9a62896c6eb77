import Derived.Test.YthcjledpjlpfaaaDoorJ09
import Derived.Test.YthcjledpjlpfaaaDoorJ10
import Derived.Test.YthcjledpjlpfaaaDoorJ04
import Derived.Test.YthcjledpjlpfaaaDoorJ00
import Derived.Test.YthcjledpjlpfaaaDoorJ01
import Derived.Test.YthcjledpjlpfaaaDoorJ06
import Derived.Test.YthcjledpjlpfaaaDoorJ05
import Derived.Test.YthcjledpjlpfaaaDoorJ02
import Derived.Lib.MinMax
/- Of a claim's texts, joined: Chs Reft Chw Chaw Chbk ChBack Ddv Fln. No statement but in the last. -/
section
namespace Go.Proofs.YthcjledpjlpfaaaDoor
open Go.RowKit
set_option linter.unusedVariables false

def u64N9 (x : Int) : Nat := (IntKind.u64.wrap x).toNat
theorem u64l9 (x : Int) : u64N9 x < 18446744073709551616 := by unfold u64N9; rw [IntKind.wrap_u64]; omega
theorem u64w9 (x : Int) : IntKind.u64.wrap x = ((u64N9 x : Nat) : Int) := by rw [IntKind.wrap_u64]; unfold u64N9; rw [IntKind.wrap_u64]; omega
theorem u64s9 {x : Int} (h0 : 0 ≤ x) (h1 : x ≤ 999) : u64N9 x = x.toNat := by unfold u64N9; rw [IntKind.wrap_u64]; omega
def rPg (s : List UInt8) (l : List Int) (k : Nat) : List UInt8 := cPage 3 [numB (u64N9 (l.getD (k + 1) 0)) 2 ++ partL s k]
def RPutEnd (s : List UInt8) (l : List Int) (w : World) (e : Ending) (w' : World) : Prop :=
  ∃ A n c, e = .returned (.tuple #[.slice A n c, .int .i64 (putN s l).2]) ∧ TxtA w' A n (putN s l).1 ∧ Below w.heap.size w w'
theorem RPutEnd.no {s : List UInt8} {l : List Int} {w w' : World} (hg : ¬ goodP s l) (hb : Below w.heap.size w w') : RPutEnd s l w (.returned (.tuple #[.slice none 0 0, .int .i64 1])) w' := by
  have hp : putN s l = ([], 1) := by unfold putN; rw [if_neg hg]
  unfold RPutEnd
  rw [hp]
  exact ⟨none, 0, 0, rfl, ⟨rfl, Reads.empty⟩, hb⟩
end Go.Proofs.YthcjledpjlpfaaaDoor
end

section
namespace Go.Proofs.YthcjledpjlpfaaaDoor
open Go.RowKit
set_option linter.unusedVariables false

theorem ext_take (l : List UInt8) (n : Nat) : (⟨l.toArray⟩ : ByteArray).extract 0 n = ⟨(l.take n).toArray⟩ := by
  apply ByteArray.ext
  simp [ByteArray.data_extract]
theorem ext_drop (l : List UInt8) (n : Nat) : (⟨l.toArray⟩ : ByteArray).extract n l.length = ⟨(l.drop n).toArray⟩ := by
  apply ByteArray.ext
  simp [ByteArray.data_extract]
  exact List.take_of_length_le (by simp)

def RT (w : World) (Q : Nat) (l : List UInt8) (er : Int) : Prop := Has w Q 98 #[.string ⟨l.toArray⟩, .int .i64 er]
def RStrEnd (Q : Nat) (w : World) (s l : List UInt8) (er : Int) (e : Ending) (w' : World) : Prop := e = .returned (.string ⟨s.toArray⟩) ∧ RT w' Q l er ∧ w.grownBy w' (some Q)
def RNumEnd (Q : Nat) (w : World) (x : Nat) (l : List UInt8) (er : Int) (e : Ending) (w' : World) : Prop := e = .returned (.int .u64 (x : Int)) ∧ RT w' Q l er ∧ w.grownBy w' (some Q)

theorem RT.fail {w : World} {Q : Nat} {l : List UInt8} {er : Int} (h : RT w Q l er) (er' : Int) : RT (w.setCell ⟨Q, 1, none⟩ (.int .i64 er')) Q l er' := by
  have := Has.store h 1 (.int .i64 er')
  simpa [RT] using this
theorem RT.cut {w : World} {Q : Nat} {l : List UInt8} {er : Int} (h : RT w Q l er) (l' : List UInt8) : RT (w.setCell ⟨Q, 0, none⟩ (.string ⟨l'.toArray⟩)) Q l' er := by
  have := Has.store h 0 (.string ⟨l'.toArray⟩)
  simpa [RT] using this

set_option maxRecDepth 100000 in
theorem rsome_any (Q : Nat) (l : List UInt8) (er : Int) (n : Nat) (w : World) (h : RT w Q l er) (hl : l.length ≤ 1000000) :
    Calls Tryd.prog 57 #[.pointer (some ⟨Q, 0, none⟩), .int .i64 n] w (RStrEnd Q w (stS l er n).1 (stS l er n).2.1 (stS l er n).2.2) := by
  have c0 := Has.cell0 h
  have c1 := Has.cell1 h
  have f0 := Has.free h 0
  have f1 := Has.free h 1
  have HT := Lib.hid h
  clear h
  by_cases h0 : er = 0
  · subst h0
    by_cases hn : l.length < n
    · simp only [stS, ne_eq, not_true, if_false, if_pos hn]
      have d1 : decide (l.length < n) = true := by simp; omega
      go_enter Tryd.func57, Tryd.ntmps57
      go_wp2
      go_ret
      exact ⟨rfl, HT.out.fail 10, only_store (only_refl w Q) 1 _⟩
    · simp only [stS, ne_eq, not_true, if_false, if_neg hn]
      have d1 : decide (l.length < n) = false := by simp; omega
      go_enter Tryd.func57, Tryd.ntmps57
      go_wp2
      go_ret
      refine ⟨ret_str (ext_take l n), ?_, only_store (only_refl w Q) 0 _⟩
      rw [ext_drop]
      exact HT.out.cut (l.drop n)
  · simp only [stS, ne_eq, h0, not_false_eq_true, if_true]
    have q1 : (er == 0) = false := by simpa using h0
    have q2 : (er != 0) = true := by simpa using h0
    clear h0
    go_enter Tryd.func57, Tryd.ntmps57
    go_wp2
    go_ret
    exact ⟨rfl, HT.out, only_refl w Q⟩

theorem numOf_eq (l : List UInt8) (k : Nat) (c : UInt8) (h : l[k]? = some c) : numOf (l.take (k + 1)) = numOf (l.take k) * 256 + c.toNat := by rw [take_more h, numOf_snoc]

set_option maxRecDepth 100000 in
set_option maxHeartbeats 1000000 in
theorem rtNum_any (Q : Nat) (l : List UInt8) (er size : Int) (w : World) (h : RT w Q l er) (hl : l.length ≤ 1000000) :
    Calls Tryd.prog 45 #[.pointer (some ⟨Q, 0, none⟩), .int .i64 size] w (RNumEnd Q w (stN l er size).1 (stN l er size).2.1 (stN l er size).2.2) := by
  have c0 := Has.cell0 h
  have c1 := Has.cell1 h
  have f1 := Has.free h 1
  have HT := Lib.hid h
  clear h
  by_cases h0 : er = 0
  · subst h0
    by_cases hs : size < 1 ∨ 8 < size
    · simp only [stN, ne_eq, not_true, if_false, if_pos hs]
      rcases hs with hs | hs
      · go_enter Tryd.func45, Tryd.ntmps45
        go_wp2
        go_ret
        exact ⟨rfl, HT.out.fail 1, only_store (only_refl w Q) 1 _⟩
      · have hs1 : 1 ≤ size := by omega
        go_enter Tryd.func45, Tryd.ntmps45
        go_wp2
        go_ret
        exact ⟨rfl, HT.out.fail 1, only_store (only_refl w Q) 1 _⟩
    · have hs1 : 1 ≤ size := by omega
      have hs8 : size ≤ 8 := by omega
      have hr : stN l 0 size = (numOf (stS l 0 size.toNat).1, (stS l 0 size.toNat).2.1, (stS l 0 size.toNat).2.2) := by
        by_cases hlt : (l.length : Int) < size
        · have hlt2 : l.length < size.toNat := by omega
          simp only [stN, stS, ne_eq, not_true, if_false, if_neg hs, if_pos hlt, if_pos hlt2]
          rfl
        · have hlt2 : ¬ l.length < size.toNat := by omega
          simp only [stN, stS, ne_eq, not_true, if_false, if_neg hs, if_neg hlt, if_neg hlt2]
      rw [hr]
      obtain ⟨n, rfl⟩ : ∃ n : Nat, size = (n : Int) := ⟨size.toNat, by omega⟩
      clear hr hs
      rw [Int.toNat_natCast]
      have ht : (stS l 0 n).1.length ≤ 8 := by
        unfold stS
        rw [if_neg (by simp)]
        split
        · simp
        · simp; omega
      have HK := Lib.hid (rsome_any Q l 0 n w HT.out hl)
      obtain ⟨t, l1, er1, hst⟩ : ∃ t l1 er1, stS l 0 n = (t, l1, er1) := ⟨_, _, _, rfl⟩
      rw [hst] at HK ht ⊢
      simp only at HK ht ⊢
      clear hst
      go_enter Tryd.func45, Tryd.ntmps45
      go_wp2_with (go_at_call 57; refine HK.out.mono ?_; rintro e w1 ⟨rfl, h1, h2⟩; have R1 := Lib.hid h1; have G1 := Lib.hid h2; clear h1 h2)
      go_loop [6, 7] (fun x i => ∃ k : Nat, k ≤ t.length ∧ i = .int .i64 k ∧ x = .int .u64 (numOf (t.take k) : Int)) (fun _ i => t.length - (intOf i).toNat)
      case atStart => exact ⟨0, Nat.zero_le _, rfl, rfl⟩
      case round =>
        obtain ⟨k, hk, rfl, rfl⟩ := hrel
        by_cases hlt : k < t.length
        · obtain ⟨d, hd⟩ : ∃ d, t[k]? = some d := ⟨_, List.getElem?_eq_getElem hlt⟩
          have hb := numOf_take_lt t k 7 (by omega)
          have HN := Lib.hid (numOf_eq t k d hd)
          have hd2 := d.toNat_lt
          have htk : t[k] = d := by rw [List.getElem?_eq_getElem hlt] at hd; injection hd
          have HD := Lib.hid hd
          clear hd
          generalize numOf (t.take k) = x at hb HN
          have HK2 := Lib.hid htk
          clear htk
          go_wp2
          go_round
          case rel =>
            refine ⟨k + 1, by omega, by go_num, u64_eq ?_⟩
            have e : (⟨t.toArray⟩ : ByteArray)[k] = d := HK2.out
            rw [e, IntWalk.u64_in (d.toNat : Int) (by omega), IntWalk.u64_in _ (by omega), HN.out]
            omega
          case measure => simp [intOf]; omega
        · go_wp2
          go_ret
          exact ⟨ret_u64 (by rw [List.take_of_length_le (by omega)]), R1.out, G1.out⟩
  · simp only [stN, ne_eq, h0, not_false_eq_true, if_true]
    have q1 : (er == 0) = false := by simpa using h0
    have q2 : (er != 0) = true := by simpa using h0
    clear h0
    go_enter Tryd.func45, Tryd.ntmps45
    go_wp2
    go_ret
    exact ⟨rfl, HT.out, only_refl w Q⟩

end Go.Proofs.YthcjledpjlpfaaaDoor
end

section
namespace Go.Proofs.YthcjledpjlpfaaaDoor
open Go.RowKit
set_option linter.unusedVariables false

theorem ne_T {w : World} {B s n Q : Nat} {v : Value} {xs : List Value} {l : List UInt8} {er : Int} (ho : w.ownsRow B 3 s v n xs) (h : RT w Q l er) : v.ownBlock ≠ some Q := fun hq => by
  rcases ho.2 with ⟨rfl, _⟩ | ⟨g, cap, cur, rfl, _, hc, _⟩
  · cases hq
  · obtain rfl : g = Q := by injection hq
    exact Has.apart (show Has w g 3 cur from hc) (show Has w g 98 _ from h) (by decide) rfl
theorem row_cell {w : World} {t : TypeId} {lo g off : Nat} {u : Value} {xs : List Value} (h : Row w t lo (some ⟨g, off, none⟩) (u :: xs)) : w.cell? ⟨g, off, none⟩ = some u := by
  obtain ⟨g', off', cs, e, _, hh, hc⟩ := h (by simp)
  injection e with e
  injection e with e1 e2 _
  subst e1 e2
  rw [hh.cell]
  exact hc 0 u rfl
theorem rdL_len {w : World} {T : Tg} {A : Option Addr} {n c : Nat} {gs : List Gx} (h : GA w T A n c gs) (x p : Int) : (rdL (rgs gs) x p).length ≤ 128 := by
  unfold rdL
  cases hr : regN (rgs gs) x with
  | none => simp
  | some r =>
    simp only
    obtain ⟨k, g, _, hg, rfl, _⟩ := regN_gs hr
    split
    · simp
    · split
      · rw [rdP_len (h.reg hg).ok]
        exact Nat.le_refl _
      · simp
section
variable {w : World} {T : Tg} {A : Option Addr} {n0 c0 : Nat} {gs : List Gx}
end

end Go.Proofs.YthcjledpjlpfaaaDoor
end

section
namespace Go.Proofs.YthcjledpjlpfaaaDoor
open Go.RowKit
set_option linter.unusedVariables false

def ex9 : List Int := [5, 3, 8]
end Go.Proofs.YthcjledpjlpfaaaDoor
end

section
namespace Go.Proofs.YthcjledpjlpfaaaDoor
open Go.RowKit
set_option linter.unusedVariables false

def markT (T : Tg) (d g : Nat) : Tg := fun x => if x = g then some (d + 1, 0) else T x
theorem markT_old {T : Tg} {d g x : Nat} {t : Nat × Nat} (hg : T g = none) (h : T x = some t) : markT T d g x = some t := by
  unfold markT
  rw [if_neg (fun e => by rw [e, hg] at h; cases h)]
  exact h
theorem Dk.mark {w : World} {T : Tg} {d D A g : Nat} {rs : List Rg} (h : Dk w T d D A rs) (hg : T g = none) : Dk w (markT T d g) d D A rs :=
  ⟨h.hd, markT_old hg h.td, markT_old hg h.ta, h.blk, fun i r hr => by
    obtain ⟨m1, m2, v, a⟩ := h.at_ i r hr
    exact ⟨m1, m2, v, a.c0, a.c1, a.c2, a.c3, a.c4, a.c5, markT_old hg a.ta, markT_old hg a.t1, markT_old hg a.t2, fun g' hg' => markT_old hg (a.t3 g' hg'), a.p1, a.p2, a.row, a.ok⟩⟩
def PgH (w : World) (T : Tg) (B : Nat) (q : List Hd) : Prop := ∀ x ∈ q, ∃ g off cs, x.a = some ⟨g, off, none⟩ ∧ B ≤ g ∧ Bk w T g 5 cs ∧ ∀ j u, (x.l.map byteV)[j]? = some u → cs[off + j]? = some u
theorem PgH.tn {w w' : World} {T T' : Tg} {d B : Nat} {q : List Hd} (h : PgH w T B q) (k : Tn T d w T' w') : PgH w' T' B q := fun x hx => by
  obtain ⟨g, off, cs, h1, h2, h3, h4⟩ := h x hx
  exact ⟨g, off, cs, h1, h2, h3.tn k, h4⟩
theorem PgH.below {w w' : World} {T : Tg} {B : Nat} {q : List Hd} (h : PgH w T B q) (hb : Below w.heap.size w w') : PgH w' T B q := fun x hx => by
  obtain ⟨g, off, cs, h1, h2, h3, h4⟩ := h x hx
  exact ⟨g, off, cs, h1, h2, h3.below hb, h4⟩
def HdH (w : World) (T : Tg) (A : Option Addr) (q : List Hd) : Prop := 0 < q.length → ∃ g off cs, A = some ⟨g, off, none⟩ ∧ Bk w T g 32 cs ∧ ∀ j u, (q.map Hd.v)[j]? = some u → cs[off + j]? = some u
theorem HdH.tn {w w' : World} {T T' : Tg} {d : Nat} {A : Option Addr} {q : List Hd} (h : HdH w T A q) (k : Tn T d w T' w') : HdH w' T' A q := fun hx => by
  obtain ⟨g, off, cs, h1, h3, h4⟩ := h hx
  exact ⟨g, off, cs, h1, h3.tn k, h4⟩
theorem HdH.below {w w' : World} {T : Tg} {A : Option Addr} {q : List Hd} (h : HdH w T A q) (hb : Below w.heap.size w w') : HdH w' T A q := fun hx => by
  obtain ⟨g, off, cs, h1, h3, h4⟩ := h hx
  exact ⟨g, off, cs, h1, h3.below hb, h4⟩
end Go.Proofs.YthcjledpjlpfaaaDoor
end

section
namespace Go.Proofs.YthcjledpjlpfaaaDoor
open Go.RowKit
set_option linter.unusedVariables false

theorem PgT.drew9 {w : World} {T : Tg} {A : Option Addr} {n c : Nat} {q : List Hd} (h : PgT w T A n c q) : PgT w.drew T A n c q := h.below (Below.refl _ w).drew
theorem PgH.drew9 {w : World} {T : Tg} {B : Nat} {q : List Hd} (h : PgH w T B q) : PgH w.drew T B q := h.below (Below.refl _ w).drew
theorem HdH.drew9 {w : World} {T : Tg} {A : Option Addr} {q : List Hd} (h : HdH w T A q) : HdH w.drew T A q := h.below (Below.refl _ w).drew

end Go.Proofs.YthcjledpjlpfaaaDoor
end

section
namespace Go.Proofs.YthcjledpjlpfaaaDoor
open Go.RowKit
set_option linter.unusedVariables false
section
variable {w : World} {T : Tg} {d D A : Nat} {rs : List Rg}
set_option maxRecDepth 100000 in
set_option maxHeartbeats 2000000 in
theorem Write_gen (x p : Int) (l : List UInt8) (Ab : Option Addr) (n c : Nat) (h : Dk w T d D A rs) (hlo : ∀ x t, T x = some t → x < w.heap.size) (hn : n = l.length) (hr : Reads w Ab (l.map byteV)) (hc : n ≤ c) (hT : l.length = 128 → ∀ a, Ab = some a → ∀ k, T a.block ≠ some (d, k)) (hm : ∀ r ∈ rs, r.loose.length ≤ 1000) :
    Calls Tryd.prog 18 #[.pointer (some ⟨D, 0, none⟩), .int .i64 x, .int .i64 p, .slice Ab n c] w (DkEnd (.int .i64 (wrA rs x p l).2) T d D A (wrA rs x p l).1 w) := by
  have HF := Lib.hid (running_any x h)
  have HD := Lib.hid h
  have HLO := Lib.hid hlo
  have HR := Lib.hid hr
  have HT := Lib.hid hT
  clear hr hT
  cases hr : regN rs x with
  | none =>
    rw [show wrA rs x p l = (rs, 2) by simp [wrA, hr]]
    rw [runV_none hr] at HF
    clear h hr hm hlo
    go_enter Tryd.func18, Tryd.ntmps18
    go_wp2_with (go_at_call 33; (with_reducible refine HF.out.mono ?_); rintro e w2 ⟨rfl, rfl⟩)
    go_ret
    exact DkEnd.same HD.out HLO.out
  | some r =>
    obtain ⟨h1, h2, h3⟩ := regN_some hr
    obtain ⟨m1, m2, v, ha⟩ := h.at_ _ r h3
    have hmr := hm r (List.mem_of_getElem? h3)
    cases hd : r.down
    · rw [runV_up hr hd] at HF
      have HH := Lib.hid (has_any p w ha)
      cases hh : hasB r p
      · rw [show wrA rs x p l = (rs, 2) by simp [wrA, hr, hd, hh]]
        rw [hh] at HH
        clear h hr h1 h2 h3 ha hd hh hm hlo hmr
        go_enter Tryd.func18, Tryd.ntmps18
        go_wp2_with (first
          | (go_at_call 33; (with_reducible refine HF.out.mono ?_); rintro e w2 ⟨rfl, rfl⟩)
          | (go_at_call 34; (with_reducible refine HH.out.mono ?_); rintro e w2 ⟨rfl, rfl⟩))
        go_ret
        exact DkEnd.same HD.out HLO.out
      · have hh0 : 0 ≤ p ∧ p < r.size := by simpa [hasB] using hh
        by_cases h128 : l.length = 128
        · have HS := Lib.hid (stops_any w ha h.blk_ hlo hd)
          have HP := Lib.hid hh0
          rw [show n = 128 by omega] at *
          cases hq : (cntR r).down
          · rw [show wrA rs x p l = (rs.set x.toNat (wrR (cntR r) p l), 0) by simp [wrA, hr, hd, hh, h128, hq]]
            rw [hq] at HS
            rw [hh] at HH
            obtain ⟨gb, ob, hAb, hcell⟩ := HR.out (by simp [h128])
            have hrg : w.rangeAt gb ob (l.map byteV) := hcell
            have HRG := Lib.hid hrg
            have HTb := Lib.hid (HT.out h128 ⟨gb, ob, none⟩ hAb)
            have HB := Lib.hid h.blk_
            have hmr' : (cntR r).loose.length ≤ 1000 := by rw [cntR_loose]; exact hmr
            have hgb : gb < w.heap.size := World.block_lt_of_cell? w _ (hrg 0 (byteV (l.getD 0 0)) (by simp [h128, List.getD]))
            have HWr := Lib.hid (fun (w2 : World) (a2 : Ar w2 T d A x.toNat m1 m2 v (cntR r)) (n2 : Nx T d A x.toNat w T w2) =>
              write_any p l gb ob c w2 a2 (n2.blk HB.out) (n2.lo HLO.out) HP.out.1 (by rw [cntR_size]; exact HP.out.2) h128
                (fun j u hj => (cell_heap (p := ⟨gb, ob + j, none⟩) (n2.block gb hgb (fun e => HTb.out 1 (by show T gb = _; rw [e]; exact ha.ta)) (fun j _ => HTb.out _))).trans (HRG.out j u hj)) hc hmr' HTb.out)
            subst hAb
            clear h hr h1 h2 h3 ha hd hh hm hlo hmr hh0 hcell hrg h128 hq hmr' hgb hn
            go_enter Tryd.func18, Tryd.ntmps18
            go_wp2_with (first
              | (go_at_call 33; (with_reducible refine HF.out.mono ?_); rintro e w2 ⟨rfl, rfl⟩)
              | (go_at_call 34; (with_reducible refine HH.out.mono ?_); rintro e w2 ⟨rfl, rfl⟩)
              | (go_at_call 35; (with_reducible refine HS.out.mono ?_); rintro e w2 ⟨rfl, a2, n2⟩; have A2 := Lib.hid a2; have N2 := Lib.hid n2; clear a2 n2)
              | (go_at_call 36; (with_reducible refine (HWr.out _ A2.out N2.out).mono ?_); rintro e w3 ⟨rfl, T', v', a3, n3⟩; have A3 := Lib.hid a3; have N3 := Lib.hid (N2.out.trans n3); clear a3 n3))
            go_ret
            exact HD.out.end_ N3.out A3.out
          · rw [show wrA rs x p l = (rs.set x.toNat (cntR r), 3) by simp [wrA, hr, hd, hh, h128, hq]]
            rw [hq] at HS
            rw [hh] at HH
            clear h hr h1 h2 h3 ha hd hh hm hlo hmr hh0 h128 hq hn
            go_enter Tryd.func18, Tryd.ntmps18
            go_wp2_with (first
              | (go_at_call 33; (with_reducible refine HF.out.mono ?_); rintro e w2 ⟨rfl, rfl⟩)
              | (go_at_call 34; (with_reducible refine HH.out.mono ?_); rintro e w2 ⟨rfl, rfl⟩)
              | (go_at_call 35; (with_reducible refine HS.out.mono ?_); rintro e w2 ⟨rfl, a2, n2⟩; have A2 := Lib.hid a2; have N2 := Lib.hid n2; clear a2 n2))
            go_ret
            exact HD.out.end_ N2.out A2.out
        · rw [show wrA rs x p l = (rs, 1) by simp [wrA, hr, hd, hh, h128]]
          rw [hh] at HH
          have e1 : ((n : Int) != 128) = true := by simp; omega
          clear h hr h1 h2 h3 ha hd hh hm hlo hmr h128 hn
          go_enter Tryd.func18, Tryd.ntmps18
          go_wp2_with (first
            | (go_at_call 33; (with_reducible refine HF.out.mono ?_); rintro e w2 ⟨rfl, rfl⟩)
            | (go_at_call 34; (with_reducible refine HH.out.mono ?_); rintro e w2 ⟨rfl, rfl⟩))
          go_ret
          exact DkEnd.same HD.out HLO.out
    · rw [show wrA rs x p l = (rs, 3) by simp [wrA, hr, hd]]
      rw [runV_down hr hd] at HF
      clear h hr h1 h2 h3 ha hd hm hlo hmr
      go_enter Tryd.func18, Tryd.ntmps18
      go_wp2_with (go_at_call 33; (with_reducible refine HF.out.mono ?_); rintro e w2 ⟨rfl, rfl⟩)
      go_ret
      exact DkEnd.same HD.out HLO.out
end
end Go.Proofs.YthcjledpjlpfaaaDoor
end

section
namespace Go.Proofs.YthcjledpjlpfaaaDoor
open Go.RowKit
set_option linter.unusedVariables false

theorem fShares_any (n e : Nat) (he : e = 59 ∨ e = 60) (hn : n ≤ 9223372036854775807) (w : World) : Calls Tryd.prog 31 #[.int .u64 (n : Int), .int .u64 (e : Int)] w fun r w' => r = .returned (.int .i64 (((n + (e - 1)) / e : Nat) : Int)) ∧ w = w' := by
  by_cases h0 : n = 0
  · subst h0
    have hq : (0 + (e - 1)) / e = 0 := by rcases he with rfl | rfl <;> rfl
    rw [hq]
    clear he hq
    go_enter Tryd.func31, Tryd.ntmps31
    go_wp2
    go_ret
    exact ⟨rfl, rfl⟩
  · obtain ⟨m, rfl⟩ : ∃ m, n = m + 1 := ⟨n - 1, by omega⟩
    have hne : (((m + 1 : Nat) : Int) == 0) = false := by simp; omega
    rcases he with rfl | rfl
    · go_enter Tryd.func31, Tryd.ntmps31
      go_wp2
      go_ret
      exact ⟨reti (by omega), rfl⟩
    · go_enter Tryd.func31, Tryd.ntmps31
      go_wp2
      go_ret
      exact ⟨reti (by omega), rfl⟩
theorem fShares59 (n : Nat) (hn : n ≤ 9223372036854775807) (w : World) : Calls Tryd.prog 31 #[.int .u64 (n : Int), .int .u64 59] w fun r w' => r = .returned (.int .i64 (((n + 58) / 59 : Nat) : Int)) ∧ w = w' := fShares_any n 59 (Or.inl rfl) hn w
theorem fShares60 (n : Nat) (hn : n ≤ 9223372036854775807) (w : World) : Calls Tryd.prog 31 #[.int .u64 (n : Int), .int .u64 60] w fun r w' => r = .returned (.int .i64 (((n + 59) / 60 : Nat) : Int)) ∧ w = w' := fShares_any n 60 (Or.inr rfl) hn w
theorem fIsPage_any (z : Int) (w : World) : Calls Tryd.prog 42 #[.int .i64 z] w fun e w' => e = .returned (.bool (pgOk z)) ∧ w = w' := by
  unfold pgOk
  by_cases h0 : 2 ≤ z
  · by_cases h1 : z ≤ 999
    · go_enter Tryd.func42, Tryd.ntmps42
      go_wp2
      go_ret
      exact ⟨retb (by simp; omega), rfl⟩
    · go_enter Tryd.func42, Tryd.ntmps42
      go_wp2
      go_ret
      exact ⟨retb (by simp; omega), rfl⟩
  · go_enter Tryd.func42, Tryd.ntmps42
    go_wp2
    go_ret
    exact ⟨retb (by simp; omega), rfl⟩
theorem fNeed_any (z : Int) (hz : z ≤ 9223372036854775807) (w : World) : Calls Tryd.prog 11 #[.int .i64 z] w fun e w' => e = .returned (.int .i64 (needL z : Int)) ∧ w = w' := by
  have HS := Lib.hid (fShares59 z.toNat (by omega) w)
  have HN : Hid ((z.toNat + 58) / 59 = needL z) := Lib.hid rfl
  rw [HN.out] at HS
  have hm : max z 0 = ((z.toNat : Nat) : Int) := by omega
  have hb : z.toNat ≤ 9223372036854775807 := by omega
  generalize z.toNat = n at *
  clear HN
  go_enter Tryd.func11, Tryd.ntmps11
  go_wp2_with (go_at_call 31; (try rw [hm]); (with_reducible refine HS.out.mono ?_); rintro e w1 ⟨rfl, rfl⟩)
  go_ret
  exact ⟨rfl, rfl⟩
theorem fOwn_any (f v : Int) (hf : f ≤ 4000000000000000000) (hv : v ≤ 4000000000000000000) (w : World) : Calls Tryd.prog 14 #[.int .i64 f, .int .i64 v] w fun e w' => e = .returned (.int .i64 (ownL f v : Int)) ∧ w = w' := by
  obtain ⟨a, ha⟩ : ∃ a : Nat, f.toNat = a := ⟨_, rfl⟩
  obtain ⟨b, hb⟩ : ∃ b : Nat, v.toNat = b := ⟨_, rfl⟩
  have HS := Lib.hid (fShares60 (a + b) (by omega) w)
  have HD := Lib.hid (fNeed_any (b : Int) (by omega) w)
  have HO : Hid (ownL f v = max ((a + b + 59) / 60) ((b + 58) / 59)) := Lib.hid (by unfold ownL; rw [ha, hb])
  rw [HO.out]
  have e1 : needL (b : Int) = (b + 58) / 59 := by unfold needL; rw [Int.toNat_natCast]
  rw [e1] at HD
  obtain ⟨x, hx⟩ : ∃ x, (a + b + 59) / 60 = x := ⟨_, rfl⟩
  obtain ⟨y, hy⟩ : ∃ y, (b + 58) / 59 = y := ⟨_, rfl⟩
  rw [hx] at HS
  rw [hy] at HD
  rw [hx, hy]
  have hf2 : max f 0 = (a : Int) := by omega
  have hv2 : max v 0 = (b : Int) := by omega
  have HAB : Hid ((a : Int) + (b : Int) = ((a + b : Nat) : Int)) := Lib.hid (by omega)
  have hab2 : a + b ≤ 8000000000000000000 := by omega
  have ha2 : a ≤ 4000000000000000000 := by omega
  have hb2 : b ≤ 4000000000000000000 := by omega
  clear e1 HO hx hy ha hb
  go_enter Tryd.func14, Tryd.ntmps14
  go_wp2_with (first
    | (go_at_call 31; (try rw [hf2]); (try rw [hv2]); (try rw [HAB.out]); (with_reducible refine HS.out.mono ?_); rintro e w1 ⟨rfl, rfl⟩)
    | (go_at_call 11; (try rw [hv2]); (with_reducible refine HD.out.mono ?_); rintro e w1 ⟨rfl, rfl⟩))
  go_ret
  exact ⟨reti (by omega), rfl⟩

theorem fol_cases (l : List Int) (x : Int) (n : Nat) (hn : n = l.length) : folB l x = (pgOk x && (decide (n = 0) || decide (l.getD (n - 1) 0 < x))) := by
  unfold folB
  rw [getLastD_eq, hn]
  congr 2
  by_cases h : l = []
  · simp [h]
  · simp [h, List.length_eq_zero_iff]
set_option maxRecDepth 100000 in
theorem fMay_any (A : Option Addr) (n c : Nat) (l : List Int) (x : Int) (w : World) (h : Ints6 w A n l) (hn : n ≤ 1000000) :
    Calls Tryd.prog 41 #[.slice A n c, .int .i64 x] w fun e w' => e = .returned (.bool (folB l x)) ∧ w = w' := by
  have HP := Lib.hid (fun w1 => fIsPage_any x w1)
  rw [fol_cases l x n h.len]
  cases hp : pgOk x
  · rw [hp] at HP
    clear h hp
    go_enter Tryd.func41, Tryd.ntmps41
    go_wp2_with (go_at_call 42; (with_reducible refine (HP.out _).mono ?_); rintro e w1 ⟨rfl, rfl⟩)
    go_ret
    exact ⟨rfl, rfl⟩
  · rw [hp] at HP
    clear hp
    by_cases h0 : n = 0
    · subst h0
      clear h
      go_enter Tryd.func41, Tryd.ntmps41
      go_wp2_with (go_at_call 42; (with_reducible refine (HP.out _).mono ?_); rintro e w1 ⟨rfl, rfl⟩)
      go_ret
      exact ⟨rfl, rfl⟩
    · have hkl : n - 1 < l.length := by have := h.len; omega
      obtain ⟨g, off, rfl, ck⟩ := h.at_ (List.getElem?_eq_getElem hkl)
      have hD : l.getD (n - 1) 0 = l[n - 1] := by rw [List.getD_eq_getElem?_getD, List.getElem?_eq_getElem hkl]; rfl
      rw [hD]
      generalize l[n - 1] = y at ck
      obtain ⟨m, rfl⟩ : ∃ m, n = m + 1 := ⟨n - 1, by omega⟩
      rw [Nat.add_sub_cancel] at ck
      have hne : (((m + 1 : Nat) : Int) == 0) = false := by simp; omega
      have hwm : IntKind.i64.wrap (((m + 1 : Nat) : Int) - 1) = (m : Int) := by rw [IntKind.wrap_i64]; omega
      clear h hkl hD h0
      go_enter Tryd.func41, Tryd.ntmps41
      go_wp2_with (go_at_call 42; (with_reducible refine (HP.out _).mono ?_); rintro e w1 ⟨rfl, rfl⟩)
      go_ret
      exact ⟨retb (by simp; omega), rfl⟩
end Go.Proofs.YthcjledpjlpfaaaDoor
end
