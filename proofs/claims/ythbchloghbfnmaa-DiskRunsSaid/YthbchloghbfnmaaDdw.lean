/- Package disk: Write, Sync, Stop: contracts, no statement. -/
import Derived.Test.YthbchloghbfnmaaDdr
namespace Go.Proofs.Ythbchloghbfnmaa
open Go.RowKit
set_option linter.unusedVariables false

def wrA (rs : List Rg) (x p : Int) (l : List UInt8) : List Rg × Int := match regN rs x with
  | none => (rs, 2)
  | some r => if r.down then (rs, 3) else if hasB r p then (if l.length = 128 then (if (cntR r).down then (rs.set x.toNat (cntR r), 3) else (rs.set x.toNat (wrR (cntR r) p l), 0)) else (rs, 1)) else (rs, 2)
def syA (rs : List Rg) (x : Int) : List Rg × Int := match regN rs x with
  | none => (rs, 2)
  | some r => if r.down then (rs, 3) else if (cntR r).down then (rs.set x.toNat (cntR r), 3) else (rs.set x.toNat (setR allK (cntR r)), 0)
def stA (rs : List Rg) (x a : Int) : List Rg := match regN rs x with
  | none => rs
  | some r => rs.set x.toNat (stR r a)
def DkEnd (res : Value) (T : Tg) (d D A : Nat) (rs : List Rg) (w : World) (e : Ending) (w' : World) : Prop := e = .returned res ∧ ∃ T', Dk w' T' d D A rs ∧ Tn T d w T' w'
theorem cntR_size (r : Rg) : (cntR r).size = r.size := by
  unfold cntR
  split
  · rfl
  · split <;> rfl
theorem cntR_loose (r : Rg) : (cntR r).loose = r.loose := by
  unfold cntR
  split
  · rfl
  · split <;> rfl
section
variable {w : World} {T : Tg} {d D A : Nat} {rs : List Rg}
theorem DkEnd.same {er : Value} (h : Dk w T d D A rs) (hlo : ∀ x t, T x = some t → x < w.heap.size) : DkEnd er T d D A rs w (.returned er) w := ⟨rfl, T, h, Tn.refl _ _ _ hlo⟩
theorem Dk.blk_ (h : Dk w T d D A rs) : ∃ cs, Has w A 72 cs := by
  obtain ⟨cs, hA, _⟩ := h.blk
  exact ⟨cs, hA⟩
theorem Nx.blk {w' : World} {T' : Tg} {i : Nat} (k : Nx T d A i w T' w') (h : ∃ cs, Has w A 72 cs) : ∃ cs, Has w' A 72 cs := by
  obtain ⟨cs, hA⟩ := h
  obtain ⟨cs', hA', _⟩ := k.row cs hA
  exact ⟨cs', hA'⟩
theorem Dk.end_ {res : Value} {w' : World} {T' : Tg} {i m1 m2 : Nat} {v : Value} {r' : Rg} (h : Dk w T d D A rs) (k : Nx T d A i w T' w') (hn : Ar w' T' d A i m1 m2 v r') : DkEnd res T d D A (rs.set i r') w (.returned res) w' :=
  ⟨rfl, T', h.put k hn, k.tn h.ta⟩
set_option maxRecDepth 100000 in
set_option maxHeartbeats 2000000 in
theorem Write_any (x p : Int) (l : List UInt8) (Ab : Option Addr) (n c : Nat) (h : Dk w T d D A rs) (hlo : ∀ x t, T x = some t → x < w.heap.size) (hn : n = l.length) (hr : Reads w Ab (l.map byteV)) (hc : n ≤ c) (hT : ∀ a, Ab = some a → ∀ k, T a.block ≠ some (d, k)) (hm : ∀ r ∈ rs, r.loose.length ≤ 1000) :
    Calls Try.prog 12 #[.pointer (some ⟨D, 0, none⟩), .int .i64 x, .int .i64 p, .slice Ab n c] w (DkEnd (.int .i64 (wrA rs x p l).2) T d D A (wrA rs x p l).1 w) := by
  have HF := Lib.hid (running_any x h)
  have HD := Lib.hid h
  have HLO := Lib.hid hlo
  have HR := Lib.hid hr
  have HT := Lib.hid hT
  clear hr hT
  cases hr : regN rs x with
  | none =>
    rw [show wrA rs x p l = (rs, 2) by simp [wrA, hr]]
    rw [runV_none hr] at HF
    clear h hr hm hlo
    go_enter Try.func12, Try.ntmps12
    go_wp2_with (go_at_call 31; (with_reducible refine HF.out.mono ?_); rintro e w2 ⟨rfl, rfl⟩)
    go_ret
    exact DkEnd.same HD.out HLO.out
  | some r =>
    obtain ⟨h1, h2, h3⟩ := regN_some hr
    obtain ⟨m1, m2, v, ha⟩ := h.at_ _ r h3
    have hmr := hm r (List.mem_of_getElem? h3)
    cases hd : r.down
    · rw [runV_up hr hd] at HF
      have HH := Lib.hid (has_any p w ha)
      cases hh : hasB r p
      · rw [show wrA rs x p l = (rs, 2) by simp [wrA, hr, hd, hh]]
        rw [hh] at HH
        clear h hr h1 h2 h3 ha hd hh hm hlo hmr
        go_enter Try.func12, Try.ntmps12
        go_wp2_with (first
          | (go_at_call 31; (with_reducible refine HF.out.mono ?_); rintro e w2 ⟨rfl, rfl⟩)
          | (go_at_call 32; (with_reducible refine HH.out.mono ?_); rintro e w2 ⟨rfl, rfl⟩))
        go_ret
        exact DkEnd.same HD.out HLO.out
      · have hh0 : 0 ≤ p ∧ p < r.size := by simpa [hasB] using hh
        by_cases h128 : l.length = 128
        · have HS := Lib.hid (stops_any w ha h.blk_ hlo hd)
          have HP := Lib.hid hh0
          rw [show n = 128 by omega] at *
          cases hq : (cntR r).down
          · rw [show wrA rs x p l = (rs.set x.toNat (wrR (cntR r) p l), 0) by simp [wrA, hr, hd, hh, h128, hq]]
            rw [hq] at HS
            rw [hh] at HH
            obtain ⟨gb, ob, hAb, hcell⟩ := HR.out (by simp [h128])
            have hrg : w.rangeAt gb ob (l.map byteV) := hcell
            have HRG := Lib.hid hrg
            have HTb := Lib.hid (HT.out ⟨gb, ob, none⟩ hAb)
            have HB := Lib.hid h.blk_
            have hmr' : (cntR r).loose.length ≤ 1000 := by rw [cntR_loose]; exact hmr
            have hgb : gb < w.heap.size := World.block_lt_of_cell? w _ (hrg 0 (byteV (l.getD 0 0)) (by simp [h128, List.getD]))
            have HWr := Lib.hid (fun (w2 : World) (a2 : Ar w2 T d A x.toNat m1 m2 v (cntR r)) (n2 : Nx T d A x.toNat w T w2) =>
              write_any p l gb ob c w2 a2 (n2.blk HB.out) (n2.lo HLO.out) HP.out.1 (by rw [cntR_size]; exact HP.out.2) h128
                (fun j u hj => (cell_heap (p := ⟨gb, ob + j, none⟩) (n2.block gb hgb (fun e => HTb.out 1 (by show T gb = _; rw [e]; exact ha.ta)) (fun j _ => HTb.out _))).trans (HRG.out j u hj)) hc hmr' HTb.out)
            subst hAb
            clear h hr h1 h2 h3 ha hd hh hm hlo hmr hh0 hcell hrg h128 hq hmr' hgb hn
            go_enter Try.func12, Try.ntmps12
            go_wp2_with (first
              | (go_at_call 31; (with_reducible refine HF.out.mono ?_); rintro e w2 ⟨rfl, rfl⟩)
              | (go_at_call 32; (with_reducible refine HH.out.mono ?_); rintro e w2 ⟨rfl, rfl⟩)
              | (go_at_call 33; (with_reducible refine HS.out.mono ?_); rintro e w2 ⟨rfl, a2, n2⟩; have A2 := Lib.hid a2; have N2 := Lib.hid n2; clear a2 n2)
              | (go_at_call 34; (with_reducible refine (HWr.out _ A2.out N2.out).mono ?_); rintro e w3 ⟨rfl, T', v', a3, n3⟩; have A3 := Lib.hid a3; have N3 := Lib.hid (N2.out.trans n3); clear a3 n3))
            go_ret
            exact HD.out.end_ N3.out A3.out
          · rw [show wrA rs x p l = (rs.set x.toNat (cntR r), 3) by simp [wrA, hr, hd, hh, h128, hq]]
            rw [hq] at HS
            rw [hh] at HH
            clear h hr h1 h2 h3 ha hd hh hm hlo hmr hh0 h128 hq hn
            go_enter Try.func12, Try.ntmps12
            go_wp2_with (first
              | (go_at_call 31; (with_reducible refine HF.out.mono ?_); rintro e w2 ⟨rfl, rfl⟩)
              | (go_at_call 32; (with_reducible refine HH.out.mono ?_); rintro e w2 ⟨rfl, rfl⟩)
              | (go_at_call 33; (with_reducible refine HS.out.mono ?_); rintro e w2 ⟨rfl, a2, n2⟩; have A2 := Lib.hid a2; have N2 := Lib.hid n2; clear a2 n2))
            go_ret
            exact HD.out.end_ N2.out A2.out
        · rw [show wrA rs x p l = (rs, 1) by simp [wrA, hr, hd, hh, h128]]
          rw [hh] at HH
          have e1 : ((n : Int) != 128) = true := by simp; omega
          clear h hr h1 h2 h3 ha hd hh hm hlo hmr h128 hn
          go_enter Try.func12, Try.ntmps12
          go_wp2_with (first
            | (go_at_call 31; (with_reducible refine HF.out.mono ?_); rintro e w2 ⟨rfl, rfl⟩)
            | (go_at_call 32; (with_reducible refine HH.out.mono ?_); rintro e w2 ⟨rfl, rfl⟩))
          go_ret
          exact DkEnd.same HD.out HLO.out
    · rw [show wrA rs x p l = (rs, 3) by simp [wrA, hr, hd]]
      rw [runV_down hr hd] at HF
      clear h hr h1 h2 h3 ha hd hm hlo hmr
      go_enter Try.func12, Try.ntmps12
      go_wp2_with (go_at_call 31; (with_reducible refine HF.out.mono ?_); rintro e w2 ⟨rfl, rfl⟩)
      go_ret
      exact DkEnd.same HD.out HLO.out
theorem Write_nil (x p : Int) (v : Value) (w : World) : Calls Try.prog 12 #[.pointer none, .int .i64 x, .int .i64 p, v] w fun e w' => e = .returned (.int .i64 1) ∧ w = w' := by
  go_enter Try.func12, Try.ntmps12
  go_wp2_with (go_at_call 31; (with_reducible refine (running_nil x _).mono ?_); rintro e w2 ⟨rfl, rfl⟩)
  go_ret
  exact ⟨rfl, rfl⟩
set_option maxRecDepth 100000 in
set_option maxHeartbeats 2000000 in
theorem Sync_any (x : Int) (h : Dk w T d D A rs) (hlo : ∀ x t, T x = some t → x < w.heap.size) (hm : ∀ r ∈ rs, r.loose.length ≤ 1000) :
    Calls Try.prog 15 #[.pointer (some ⟨D, 0, none⟩), .int .i64 x] w (DkEnd (.int .i64 (syA rs x).2) T d D A (syA rs x).1 w) := by
  have HF := Lib.hid (running_any x h)
  have HD := Lib.hid h
  have HLO := Lib.hid hlo
  cases hr : regN rs x with
  | none =>
    rw [show syA rs x = (rs, 2) by simp [syA, hr]]
    rw [runV_none hr] at HF
    clear h hr hm hlo
    go_enter Try.func15, Try.ntmps15
    go_wp2_with (go_at_call 31; (with_reducible refine HF.out.mono ?_); rintro e w2 ⟨rfl, rfl⟩)
    go_ret
    exact DkEnd.same HD.out HLO.out
  | some r =>
    obtain ⟨h1, h2, h3⟩ := regN_some hr
    obtain ⟨m1, m2, v, ha⟩ := h.at_ _ r h3
    have hmr := hm r (List.mem_of_getElem? h3)
    cases hd : r.down
    · rw [runV_up hr hd] at HF
      have HS := Lib.hid (stops_any w ha h.blk_ hlo hd)
      cases hq : (cntR r).down
      · rw [show syA rs x = (rs.set x.toNat (setR allK (cntR r)), 0) by simp [syA, hr, hd, hq]]
        rw [hq] at HS
        have HB := Lib.hid h.blk_
        have hmr' : (cntR r).loose.length ≤ 1000 := by rw [cntR_loose]; exact hmr
        have HWr := Lib.hid (fun (w2 : World) (a2 : Ar w2 T d A x.toNat m1 m2 v (cntR r)) (n2 : Nx T d A x.toNat w T w2) => settle_sync w2 a2 (n2.blk HB.out) (n2.lo HLO.out) hmr')
        clear h hr h1 h2 h3 ha hd hm hlo hmr hq hmr'
        go_enter Try.func15, Try.ntmps15
        go_wp2_with (first
          | (go_at_call 31; (with_reducible refine HF.out.mono ?_); rintro e w2 ⟨rfl, rfl⟩)
          | (go_at_call 33; (with_reducible refine HS.out.mono ?_); rintro e w2 ⟨rfl, a2, n2⟩; have A2 := Lib.hid a2; have N2 := Lib.hid n2; clear a2 n2)
          | (go_at_call 38; (with_reducible refine (HWr.out _ A2.out N2.out).mono ?_); rintro e w3 ⟨rfl, T', v', a3, n3⟩; have A3 := Lib.hid a3; have N3 := Lib.hid (N2.out.trans n3); clear a3 n3))
        go_ret
        exact HD.out.end_ N3.out A3.out
      · rw [show syA rs x = (rs.set x.toNat (cntR r), 3) by simp [syA, hr, hd, hq]]
        rw [hq] at HS
        clear h hr h1 h2 h3 ha hd hm hlo hmr hq
        go_enter Try.func15, Try.ntmps15
        go_wp2_with (first
          | (go_at_call 31; (with_reducible refine HF.out.mono ?_); rintro e w2 ⟨rfl, rfl⟩)
          | (go_at_call 33; (with_reducible refine HS.out.mono ?_); rintro e w2 ⟨rfl, a2, n2⟩; have A2 := Lib.hid a2; have N2 := Lib.hid n2; clear a2 n2))
        go_ret
        exact HD.out.end_ N2.out A2.out
    · rw [show syA rs x = (rs, 3) by simp [syA, hr, hd]]
      rw [runV_down hr hd] at HF
      clear h hr h1 h2 h3 ha hd hm hlo hmr
      go_enter Try.func15, Try.ntmps15
      go_wp2_with (go_at_call 31; (with_reducible refine HF.out.mono ?_); rintro e w2 ⟨rfl, rfl⟩)
      go_ret
      exact DkEnd.same HD.out HLO.out
theorem Sync_nil (x : Int) (w : World) : Calls Try.prog 15 #[.pointer none, .int .i64 x] w fun e w' => e = .returned (.int .i64 1) ∧ w = w' := by
  go_enter Try.func15, Try.ntmps15
  go_wp2_with (go_at_call 31; (with_reducible refine (running_nil x _).mono ?_); rintro e w2 ⟨rfl, rfl⟩)
  go_ret
  exact ⟨rfl, rfl⟩
theorem Stop_any (x a : Int) (h : Dk w T d D A rs) (hlo : ∀ x t, T x = some t → x < w.heap.size) (hs : a ≤ 9223372036854775807) :
    Calls Try.prog 17 #[.pointer (some ⟨D, 0, none⟩), .int .i64 x, .int .i64 a] w (DkEnd (.tuple #[]) T d D A (stA rs x a) w) := by
  have HF := Lib.hid (find_any x h)
  have HD := Lib.hid h
  have HLO := Lib.hid hlo
  unfold findV at HF
  cases hr : regN rs x with
  | none =>
    rw [show stA rs x a = rs by simp [stA, hr]]
    simp only [hr] at HF
    clear h hr hlo
    go_enter Try.func17, Try.ntmps17
    go_wp2_with (go_at_call 41; (with_reducible refine HF.out.mono ?_); rintro e w2 ⟨rfl, rfl⟩)
    go_end0
    exact DkEnd.same HD.out HLO.out
  | some r =>
    obtain ⟨h1, h2, h3⟩ := regN_some hr
    obtain ⟨m1, m2, v, ha⟩ := h.at_ _ r h3
    rw [show stA rs x a = rs.set x.toNat (stR r a) by simp [stA, hr]]
    simp only [hr] at HF
    have c4 := ha.c4
    obtain ⟨cs, hA⟩ := h.blk_
    have f4 := hA.free (x.toNat * 6 + 4)
    have HE := Lib.hid (fun y (h0 : -1 ≤ y) (h1 : y ≤ 9223372036854775807) => And.intro (ha.setLeft y ⟨cs, hA⟩ h0 h1) (Nx.set (T := T) (d := d) (A := A) (i := x.toNat) (j := 4) (by omega) (.int .i64 y) hlo))
    clear h hr hlo h1 h2 h3 ha hA
    by_cases h0 : a < -1
    · have e1 : max a (-1) = -1 := by omega
      go_enter Try.func17, Try.ntmps17
      go_wp2_with (go_at_call 41; (with_reducible refine HF.out.mono ?_); rintro e w2 ⟨rfl, rfl⟩)
      go_end0
      have := HE.out (-1) (by omega) (by omega)
      unfold stR
      rw [e1]
      exact HD.out.end_ this.2 this.1
    · have e1 : max a (-1) = a := by omega
      go_enter Try.func17, Try.ntmps17
      go_wp2_with (go_at_call 41; (with_reducible refine HF.out.mono ?_); rintro e w2 ⟨rfl, rfl⟩)
      go_end0
      have := HE.out a (by omega) (by omega)
      unfold stR
      rw [e1]
      exact HD.out.end_ this.2 this.1
theorem Stop_nil (x a : Int) (w : World) : Calls Try.prog 17 #[.pointer none, .int .i64 x, .int .i64 a] w fun e w' => e = .returned (.tuple #[]) ∧ w = w' := by
  go_enter Try.func17, Try.ntmps17
  go_wp2_with (go_at_call 41; (with_reducible refine (find_nil x _).mono ?_); rintro e w2 ⟨rfl, rfl⟩)
  go_end0
  exact ⟨rfl, rfl⟩
end

end Go.Proofs.Ythbchloghbfnmaa
