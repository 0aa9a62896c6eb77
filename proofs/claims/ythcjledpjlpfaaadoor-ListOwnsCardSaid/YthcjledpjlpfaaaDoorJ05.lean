import Derived.Test.YthcjledpjlpfaaaDoorJ04
import Derived.Test.YthcjledpjlpfaaaDoorJ02
/- Of a claim's texts, joined: Ddk Ddr Ddw Dcr Dlo Dne Chx Lit. No statement but in the last. -/
section
namespace Go.Proofs.YthcjledpjlpfaaaDoor
open Go.RowKit
set_option linter.unusedVariables false

def regN (rs : List Rg) (x : Int) : Option Rg := if x < 0 then none else rs[x.toNat]?
def upE (rs : List Rg) (x : Int) : Int :=
  match regN rs x with
  | none => 2
  | some r => if r.down then 3 else 0
theorem regN_some {rs : List Rg} {x : Int} {r : Rg} (h : regN rs x = some r) : 0 ≤ x ∧ x < rs.length ∧ rs[x.toNat]? = some r := by
  unfold regN at h
  split at h
  · cases h
  · have := (List.getElem?_eq_some_iff.1 h).1
    exact ⟨by omega, by omega, h⟩
theorem regN_none {rs : List Rg} {x : Int} (h : regN rs x = none) : x < 0 ∨ (rs.length : Int) ≤ x := by
  unfold regN at h
  split at h
  · left; omega
  · right
    rw [List.getElem?_eq_none_iff] at h
    omega
def findV (A : Nat) (rs : List Rg) (x : Int) : Value := match regN rs x with
  | none => .pointer none
  | some _ => .pointer (some ⟨A, x.toNat * 6, none⟩)
section
variable {w : World} {T : Tg} {d D A : Nat} {rs : List Rg}
theorem find_any (x : Int) (h : Dk w T d D A rs) : Calls Tryd.prog 52 #[.pointer (some ⟨D, 0, none⟩), .int .i64 x] w fun e w' => e = .returned (findV A rs x) ∧ w = w' := by
  have c0 := h.hd.cell0
  have hL := Lib.hid h
  unfold findV
  cases hr : regN rs x with
  | none =>
    rcases regN_none hr with h1 | h1
    · clear hr h
      go_enter Tryd.func52, Tryd.ntmps52
      go_wp2
      go_ret
      exact ⟨rfl, rfl⟩
    · by_cases h2 : x < 0
      · clear hr h
        go_enter Tryd.func52, Tryd.ntmps52
        go_wp2
        go_ret
        exact ⟨rfl, rfl⟩
      · clear hr h
        go_enter Tryd.func52, Tryd.ntmps52
        go_wp2
        go_ret
        exact ⟨rfl, rfl⟩
  | some r =>
    obtain ⟨h1, h2, _⟩ := regN_some hr
    obtain ⟨k, rfl⟩ : ∃ k : Nat, x = (k : Int) := ⟨x.toNat, by omega⟩
    rw [show (k : Int).toNat = k by omega]
    have h3 : ¬ (k : Int) < 0 := by omega
    have h4 : ¬ (rs.length : Int) ≤ (k : Int) := by omega
    clear hr h
    go_enter Tryd.func52, Tryd.ntmps52
    go_wp2
    go_ret
    exact ⟨rfl, rfl⟩
def runV (A : Nat) (rs : List Rg) (x : Int) : Value := .tuple #[if upE rs x = 0 then .pointer (some ⟨A, x.toNat * 6, none⟩) else .pointer none, .int .i64 (upE rs x)]
theorem runV_none {x : Int} (h : regN rs x = none) : runV A rs x = .tuple #[.pointer none, .int .i64 2] := by
  unfold runV
  rw [show upE rs x = 2 by simp [upE, h]]
  rfl
theorem runV_down {x : Int} {r : Rg} (h : regN rs x = some r) (hd : r.down = true) : runV A rs x = .tuple #[.pointer none, .int .i64 3] := by
  unfold runV
  rw [show upE rs x = 3 by simp [upE, h, hd]]
  rfl
theorem runV_up {x : Int} {r : Rg} (h : regN rs x = some r) (hd : r.down = false) : runV A rs x = .tuple #[.pointer (some ⟨A, x.toNat * 6, none⟩), .int .i64 0] := by
  unfold runV
  rw [show upE rs x = 0 by simp [upE, h, hd]]
  rfl
theorem running_any (x : Int) (h : Dk w T d D A rs) : Calls Tryd.prog 33 #[.pointer (some ⟨D, 0, none⟩), .int .i64 x] w fun e w' => e = .returned (runV A rs x) ∧ w = w' := by
  have HF := Lib.hid (find_any x h)
  unfold findV at HF
  cases hr : regN rs x with
  | none =>
    rw [runV_none hr]
    simp only [hr] at HF
    clear h hr
    go_enter Tryd.func33, Tryd.ntmps33
    go_wp2_with (go_at_call 52; (with_reducible refine HF.out.mono ?_); rintro e w2 ⟨rfl, rfl⟩)
    go_ret2
    exact ⟨rfl, rfl⟩
  | some r =>
    obtain ⟨h1, h2, h3⟩ := regN_some hr
    obtain ⟨m1, m2, v, ha⟩ := h.at_ _ r h3
    have c5 := ha.c5
    simp only [hr] at HF
    cases hd : r.down
    · rw [hd] at c5
      rw [runV_up hr hd]
      clear h hr h1 h2 h3 ha hd
      go_enter Tryd.func33, Tryd.ntmps33
      go_wp2_with (go_at_call 52; (with_reducible refine HF.out.mono ?_); rintro e w2 ⟨rfl, rfl⟩)
      go_ret2
      exact ⟨rfl, rfl⟩
    · rw [hd] at c5
      rw [runV_down hr hd]
      clear h hr h1 h2 h3 ha hd
      go_enter Tryd.func33, Tryd.ntmps33
      go_wp2_with (go_at_call 52; (with_reducible refine HF.out.mono ?_); rintro e w2 ⟨rfl, rfl⟩)
      go_ret2
      exact ⟨rfl, rfl⟩
def lenN (rs : List Rg) (x : Int) : Nat := match regN rs x with
  | none => 0
  | some r => r.size
def downN (rs : List Rg) (x : Int) : Bool := match regN rs x with
  | none => false
  | some r => r.down
end

end Go.Proofs.YthcjledpjlpfaaaDoor
end

section
namespace Go.Proofs.YthcjledpjlpfaaaDoor
open Go.RowKit
set_option linter.unusedVariables false

def rdE (rs : List Rg) (x p : Int) : Int := match regN rs x with
  | none => 2
  | some r => if r.down then 3 else if hasB r p then 0 else 2
def rdL (rs : List Rg) (x p : Int) : List UInt8 := match regN rs x with
  | none => []
  | some r => if r.down then [] else if hasB r p then rdP r p else []
def RdEnd (l : List UInt8) (er : Int) (w : World) (e : Ending) (w' : World) : Prop :=
  Below w.heap.size w w' ∧ ((er ≠ 0 ∧ l = [] ∧ e = .returned (.tuple #[.slice none 0 0, .int .i64 er])) ∨
    (er = 0 ∧ ∃ g, e = .returned (.tuple #[.slice (some ⟨g, 0, none⟩) 128 128, .int .i64 0]) ∧ w.heap.size ≤ g ∧ Has w' g 107 (l.map byteV).toArray ∧ l.length = 128))
section
variable {w : World} {T : Tg} {d D A : Nat} {rs : List Rg}
set_option maxRecDepth 100000 in
set_option maxHeartbeats 2000000 in
theorem Read_any (x p : Int) (h : Dk w T d D A rs) : Calls Tryd.prog 53 #[.pointer (some ⟨D, 0, none⟩), .int .i64 x, .int .i64 p] w (RdEnd (rdL rs x p) (rdE rs x p) w) := by
  have HF := Lib.hid (running_any x h)
  cases hr : regN rs x with
  | none =>
    rw [show rdL rs x p = [] by simp [rdL, hr], show rdE rs x p = 2 by simp [rdE, hr]]
    rw [runV_none hr] at HF
    clear h hr
    go_enter Tryd.func53, Tryd.ntmps53
    go_wp2_with (go_at_call 33; (with_reducible refine HF.out.mono ?_); rintro e w2 ⟨rfl, rfl⟩)
    go_ret2
    exact ⟨Below.refl _ _, .inl ⟨by decide, rfl, rfl⟩⟩
  | some r =>
    obtain ⟨h1, h2, h3⟩ := regN_some hr
    obtain ⟨m1, m2, v, ha⟩ := h.at_ _ r h3
    cases hd : r.down
    · rw [runV_up hr hd] at HF
      have HH := Lib.hid (has_any p w ha)
      cases hh : hasB r p
      · rw [show rdL rs x p = [] by simp [rdL, hr, hd, hh], show rdE rs x p = 2 by simp [rdE, hr, hd, hh]]
        rw [hh] at HH
        clear h hr h1 h2 h3 ha hd hh
        go_enter Tryd.func53, Tryd.ntmps53
        go_wp2_with (first
          | (go_at_call 33; (with_reducible refine HF.out.mono ?_); rintro e w2 ⟨rfl, rfl⟩)
          | (go_at_call 34; (with_reducible refine HH.out.mono ?_); rintro e w2 ⟨rfl, rfl⟩))
        go_ret2
        exact ⟨Below.refl _ _, .inl ⟨by decide, rfl, rfl⟩⟩
      · rw [show rdL rs x p = rdP r p by simp [rdL, hr, hd, hh], show rdE rs x p = 0 by simp [rdE, hr, hd, hh]]
        rw [hh] at HH
        have HR := Lib.hid (read_any p w ha)
        have hlen := rdP_len ha.ok p
        generalize rdP r p = l at HR hlen ⊢
        have hz := (zero_of_info info_content).1
        have hst := fun w : World => store_content w (l := zeros) (l' := l) (by simp [zeros]) hlen
        obtain ⟨zc, hzc⟩ : ∃ zc, (zeros.map byteV).toArray = zc := ⟨_, rfl⟩
        have hz1 : ∀ w, (zeroValue 107).run Tryd.prog w = .ok (.agg zc) w := fun w => by rw [← hzc]; exact hz w
        rw [hzc] at hst
        have HL := Lib.hid hlen
        have HZ := Lib.hid hz1
        have HS := Lib.hid hst
        clear h hr h1 h2 h3 ha hd hh hzc hz hst hlen hz1
        go_enter Tryd.func53, Tryd.ntmps53
        go_wp2_with (first
          | (go_at_call 33; (with_reducible refine HF.out.mono ?_); rintro e w2 ⟨rfl, rfl⟩)
          | (go_at_call 34; (with_reducible refine HH.out.mono ?_); rintro e w2 ⟨rfl, rfl⟩)
          | (go_at_call 63; (with_reducible refine HR.out.mono ?_); rintro e w2 ⟨rfl, hb⟩; have B2 := Lib.hid hb; have hst2 := HS.out w2; have hz2 := HZ.out w2; have hpv : ∃ pv, pageV l = pv := ⟨_, rfl⟩; obtain ⟨W, hW⟩ : ∃ W, w2.alloc (.cells zc 107) = W := ⟨_, rfl⟩; rw [hW] at hst2; clear hb)
          | (refine wpL_store rfl 107 (.tmp 10) (.tmp 26) rfl _ _ rfl rfl _ hst2 ?_))
        go_ret2
        exact ⟨B2.out.alloc B2.out.size _, .inr ⟨rfl, _, rfl, B2.out.size, Has.made _ _ _, HL.out⟩⟩
    · rw [show rdL rs x p = [] by simp [rdL, hr, hd], show rdE rs x p = 3 by simp [rdE, hr, hd]]
      rw [runV_down hr hd] at HF
      clear h hr h1 h2 h3 ha hd
      go_enter Tryd.func53, Tryd.ntmps53
      go_wp2_with (go_at_call 33; (with_reducible refine HF.out.mono ?_); rintro e w2 ⟨rfl, rfl⟩)
      go_ret2
      exact ⟨Below.refl _ _, .inl ⟨by decide, rfl, rfl⟩⟩
end

end Go.Proofs.YthcjledpjlpfaaaDoor
end

section
namespace Go.Proofs.YthcjledpjlpfaaaDoor
open Go.RowKit
set_option linter.unusedVariables false

def wrA (rs : List Rg) (x p : Int) (l : List UInt8) : List Rg × Int := match regN rs x with
  | none => (rs, 2)
  | some r => if r.down then (rs, 3) else if hasB r p then (if l.length = 128 then (if (cntR r).down then (rs.set x.toNat (cntR r), 3) else (rs.set x.toNat (wrR (cntR r) p l), 0)) else (rs, 1)) else (rs, 2)
def syA (rs : List Rg) (x : Int) : List Rg × Int := match regN rs x with
  | none => (rs, 2)
  | some r => if r.down then (rs, 3) else if (cntR r).down then (rs.set x.toNat (cntR r), 3) else (rs.set x.toNat (setR allK (cntR r)), 0)
def stA (rs : List Rg) (x a : Int) : List Rg := match regN rs x with
  | none => rs
  | some r => rs.set x.toNat (stR r a)
def DkEnd (res : Value) (T : Tg) (d D A : Nat) (rs : List Rg) (w : World) (e : Ending) (w' : World) : Prop := e = .returned res ∧ ∃ T', Dk w' T' d D A rs ∧ Tn T d w T' w'
theorem cntR_size (r : Rg) : (cntR r).size = r.size := by
  unfold cntR
  split
  · rfl
  · split <;> rfl
theorem cntR_loose (r : Rg) : (cntR r).loose = r.loose := by
  unfold cntR
  split
  · rfl
  · split <;> rfl
section
variable {w : World} {T : Tg} {d D A : Nat} {rs : List Rg}
theorem DkEnd.same {er : Value} (h : Dk w T d D A rs) (hlo : ∀ x t, T x = some t → x < w.heap.size) : DkEnd er T d D A rs w (.returned er) w := ⟨rfl, T, h, Tn.refl _ _ _ hlo⟩
theorem Dk.blk_ (h : Dk w T d D A rs) : ∃ cs, Has w A 73 cs := by
  obtain ⟨cs, hA, _⟩ := h.blk
  exact ⟨cs, hA⟩
theorem Nx.blk {w' : World} {T' : Tg} {i : Nat} (k : Nx T d A i w T' w') (h : ∃ cs, Has w A 73 cs) : ∃ cs, Has w' A 73 cs := by
  obtain ⟨cs, hA⟩ := h
  obtain ⟨cs', hA', _⟩ := k.row cs hA
  exact ⟨cs', hA'⟩
theorem Dk.end_ {res : Value} {w' : World} {T' : Tg} {i m1 m2 : Nat} {v : Value} {r' : Rg} (h : Dk w T d D A rs) (k : Nx T d A i w T' w') (hn : Ar w' T' d A i m1 m2 v r') : DkEnd res T d D A (rs.set i r') w (.returned res) w' :=
  ⟨rfl, T', h.put k hn, k.tn h.ta⟩
set_option maxRecDepth 100000 in
set_option maxHeartbeats 2000000 in
theorem Write_any (x p : Int) (l : List UInt8) (Ab : Option Addr) (n c : Nat) (h : Dk w T d D A rs) (hlo : ∀ x t, T x = some t → x < w.heap.size) (hn : n = l.length) (hr : Reads w Ab (l.map byteV)) (hc : n ≤ c) (hT : ∀ a, Ab = some a → ∀ k, T a.block ≠ some (d, k)) (hm : ∀ r ∈ rs, r.loose.length ≤ 1000) :
    Calls Tryd.prog 18 #[.pointer (some ⟨D, 0, none⟩), .int .i64 x, .int .i64 p, .slice Ab n c] w (DkEnd (.int .i64 (wrA rs x p l).2) T d D A (wrA rs x p l).1 w) := by
  have HF := Lib.hid (running_any x h)
  have HD := Lib.hid h
  have HLO := Lib.hid hlo
  have HR := Lib.hid hr
  have HT := Lib.hid hT
  clear hr hT
  cases hr : regN rs x with
  | none =>
    rw [show wrA rs x p l = (rs, 2) by simp [wrA, hr]]
    rw [runV_none hr] at HF
    clear h hr hm hlo
    go_enter Tryd.func18, Tryd.ntmps18
    go_wp2_with (go_at_call 33; (with_reducible refine HF.out.mono ?_); rintro e w2 ⟨rfl, rfl⟩)
    go_ret
    exact DkEnd.same HD.out HLO.out
  | some r =>
    obtain ⟨h1, h2, h3⟩ := regN_some hr
    obtain ⟨m1, m2, v, ha⟩ := h.at_ _ r h3
    have hmr := hm r (List.mem_of_getElem? h3)
    cases hd : r.down
    · rw [runV_up hr hd] at HF
      have HH := Lib.hid (has_any p w ha)
      cases hh : hasB r p
      · rw [show wrA rs x p l = (rs, 2) by simp [wrA, hr, hd, hh]]
        rw [hh] at HH
        clear h hr h1 h2 h3 ha hd hh hm hlo hmr
        go_enter Tryd.func18, Tryd.ntmps18
        go_wp2_with (first
          | (go_at_call 33; (with_reducible refine HF.out.mono ?_); rintro e w2 ⟨rfl, rfl⟩)
          | (go_at_call 34; (with_reducible refine HH.out.mono ?_); rintro e w2 ⟨rfl, rfl⟩))
        go_ret
        exact DkEnd.same HD.out HLO.out
      · have hh0 : 0 ≤ p ∧ p < r.size := by simpa [hasB] using hh
        by_cases h128 : l.length = 128
        · have HS := Lib.hid (stops_any w ha h.blk_ hlo hd)
          have HP := Lib.hid hh0
          rw [show n = 128 by omega] at *
          cases hq : (cntR r).down
          · rw [show wrA rs x p l = (rs.set x.toNat (wrR (cntR r) p l), 0) by simp [wrA, hr, hd, hh, h128, hq]]
            rw [hq] at HS
            rw [hh] at HH
            obtain ⟨gb, ob, hAb, hcell⟩ := HR.out (by simp [h128])
            have hrg : w.rangeAt gb ob (l.map byteV) := hcell
            have HRG := Lib.hid hrg
            have HTb := Lib.hid (HT.out ⟨gb, ob, none⟩ hAb)
            have HB := Lib.hid h.blk_
            have hmr' : (cntR r).loose.length ≤ 1000 := by rw [cntR_loose]; exact hmr
            have hgb : gb < w.heap.size := World.block_lt_of_cell? w _ (hrg 0 (byteV (l.getD 0 0)) (by simp [h128, List.getD]))
            have HWr := Lib.hid (fun (w2 : World) (a2 : Ar w2 T d A x.toNat m1 m2 v (cntR r)) (n2 : Nx T d A x.toNat w T w2) =>
              write_any p l gb ob c w2 a2 (n2.blk HB.out) (n2.lo HLO.out) HP.out.1 (by rw [cntR_size]; exact HP.out.2) h128
                (fun j u hj => (cell_heap (p := ⟨gb, ob + j, none⟩) (n2.block gb hgb (fun e => HTb.out 1 (by show T gb = _; rw [e]; exact ha.ta)) (fun j _ => HTb.out _))).trans (HRG.out j u hj)) hc hmr' HTb.out)
            subst hAb
            clear h hr h1 h2 h3 ha hd hh hm hlo hmr hh0 hcell hrg h128 hq hmr' hgb hn
            go_enter Tryd.func18, Tryd.ntmps18
            go_wp2_with (first
              | (go_at_call 33; (with_reducible refine HF.out.mono ?_); rintro e w2 ⟨rfl, rfl⟩)
              | (go_at_call 34; (with_reducible refine HH.out.mono ?_); rintro e w2 ⟨rfl, rfl⟩)
              | (go_at_call 35; (with_reducible refine HS.out.mono ?_); rintro e w2 ⟨rfl, a2, n2⟩; have A2 := Lib.hid a2; have N2 := Lib.hid n2; clear a2 n2)
              | (go_at_call 36; (with_reducible refine (HWr.out _ A2.out N2.out).mono ?_); rintro e w3 ⟨rfl, T', v', a3, n3⟩; have A3 := Lib.hid a3; have N3 := Lib.hid (N2.out.trans n3); clear a3 n3))
            go_ret
            exact HD.out.end_ N3.out A3.out
          · rw [show wrA rs x p l = (rs.set x.toNat (cntR r), 3) by simp [wrA, hr, hd, hh, h128, hq]]
            rw [hq] at HS
            rw [hh] at HH
            clear h hr h1 h2 h3 ha hd hh hm hlo hmr hh0 h128 hq hn
            go_enter Tryd.func18, Tryd.ntmps18
            go_wp2_with (first
              | (go_at_call 33; (with_reducible refine HF.out.mono ?_); rintro e w2 ⟨rfl, rfl⟩)
              | (go_at_call 34; (with_reducible refine HH.out.mono ?_); rintro e w2 ⟨rfl, rfl⟩)
              | (go_at_call 35; (with_reducible refine HS.out.mono ?_); rintro e w2 ⟨rfl, a2, n2⟩; have A2 := Lib.hid a2; have N2 := Lib.hid n2; clear a2 n2))
            go_ret
            exact HD.out.end_ N2.out A2.out
        · rw [show wrA rs x p l = (rs, 1) by simp [wrA, hr, hd, hh, h128]]
          rw [hh] at HH
          have e1 : ((n : Int) != 128) = true := by simp; omega
          clear h hr h1 h2 h3 ha hd hh hm hlo hmr h128 hn
          go_enter Tryd.func18, Tryd.ntmps18
          go_wp2_with (first
            | (go_at_call 33; (with_reducible refine HF.out.mono ?_); rintro e w2 ⟨rfl, rfl⟩)
            | (go_at_call 34; (with_reducible refine HH.out.mono ?_); rintro e w2 ⟨rfl, rfl⟩))
          go_ret
          exact DkEnd.same HD.out HLO.out
    · rw [show wrA rs x p l = (rs, 3) by simp [wrA, hr, hd]]
      rw [runV_down hr hd] at HF
      clear h hr h1 h2 h3 ha hd hm hlo hmr
      go_enter Tryd.func18, Tryd.ntmps18
      go_wp2_with (go_at_call 33; (with_reducible refine HF.out.mono ?_); rintro e w2 ⟨rfl, rfl⟩)
      go_ret
      exact DkEnd.same HD.out HLO.out
end

end Go.Proofs.YthcjledpjlpfaaaDoor
end

section
namespace Go.Proofs.YthcjledpjlpfaaaDoor
open Go.RowKit
set_option linter.unusedVariables false

def txtV (l : List UInt8) : Value := .string ⟨l.toArray⟩
structure Txts (w : World) (A : Option Addr) (n : Nat) (ks : List (List UInt8)) : Prop where
  len : n = ks.length
  reads : Reads w A (ks.map txtV)
  most : n ≤ 1000000
  each : ∀ s ∈ ks, s.length ≤ 9223372036854775807
def crOne (ks : List (List UInt8)) (i : Nat) (r : Rg) : Rg := upR (setR (bitS (ks.getD i [])) r)
def crTo (ks : List (List UInt8)) (k : Nat) (rs : List Rg) : List Rg := rs.mapIdx fun i r => if i < k then crOne ks i r else r
def crA (ks : List (List UInt8)) (rs : List Rg) : List Rg := rs.mapIdx fun i r => crOne ks i r
section
variable {w : World} {T : Tg} {d D A : Nat} {rs : List Rg}
theorem Reads.tn {w w' : World} {T T' : Tg} {d : Nat} {A : Option Addr} {xs : List Value} (h : Reads w A xs) (k : Tn T d w T' w') (hT : ∀ a, A = some a → ∀ j, T a.block ≠ some (d, j)) : Reads w' A xs := fun hx => by
  obtain ⟨g, off, hA, hc⟩ := h hx
  refine ⟨g, off, hA, fun j u hj => ?_⟩
  have h1 := hc j u hj
  exact (cell_heap (p := ⟨g, off + j, none⟩) (k.block g (World.block_lt_of_cell? w _ h1) (hT _ hA))).trans h1
end

end Go.Proofs.YthcjledpjlpfaaaDoor
end

section
namespace Go.Proofs.YthcjledpjlpfaaaDoor
open Go.RowKit
set_option linter.unusedVariables false

theorem below_ownR {base : Nat} {W w w' : World} {v : Value} {n : Nat} {e : TypeId} {s : Nat} {xs : List Value} (h : Below base W w) (hg : w.grownBy w' v.ownBlock) (ho : w.ownsRow base e s v n xs) (hs : base ≤ w.heap.size) : Below base W w' :=
  h.grown hg hs (fun k hk => (ho.lt k hk).1)
def looL (rs : List Rg) (x : Int) : List Int := match regN rs x with
  | none => []
  | some r => r.loose.map (·.1)
def IntsOut (l : List Int) (w : World) (e : Ending) (w' : World) : Prop := ∃ v, e = .returned v ∧ w'.ownsRow w.heap.size 3 1 v l.length (l.map (Value.int .i64)) ∧ Below w.heap.size w w'
theorem int_info : (Tryd.prog.info? 3).map (fun i => (i.zero, i.size, i.bytes)) = some (some (.int .i64 0), 1, 8) := by kernel_rfl
section
variable {w : World} {T : Tg} {d D A : Nat} {rs : List Rg}
end

end Go.Proofs.YthcjledpjlpfaaaDoor
end

section
namespace Go.Proofs.YthcjledpjlpfaaaDoor
open Go.RowKit
set_option linter.unusedVariables false

def szB (x : Int) : Bool := decide (1 ≤ x) && decide (x ≤ 1000)
structure Ints6 (w : World) (A : Option Addr) (n : Nat) (l : List Int) : Prop where
  len : n = l.length
  reads : Reads w A (l.map (Value.int .i64))
theorem Ints6.at_ {w : World} {A : Option Addr} {n : Nat} {l : List Int} (h : Ints6 w A n l) {k : Nat} {x : Int} (hk : l[k]? = some x) : ∃ g off, A = some ⟨g, off, none⟩ ∧ w.cell? ⟨g, off + k, none⟩ = some (.int .i64 x) := by
  have hkl := (List.getElem?_eq_some_iff.1 hk).1
  obtain ⟨g, off, hA, hc⟩ := h.reads (by simp; omega)
  exact ⟨g, off, hA, hc k _ (by rw [List.getElem?_map, hk]; rfl)⟩
theorem sizes1_any (x : Int) (w : World) : Calls Tryd.prog 51 #[.int .i64 x] w fun e w' => e = .returned (.bool (!szB x)) ∧ w = w' := by
  unfold szB
  by_cases h0 : x < 1
  · go_enter Tryd.func51, Tryd.ntmps51
    go_wp2
    go_ret
    exact ⟨retb (by simp; omega), rfl⟩
  · by_cases h1 : 1000 < x
    · go_enter Tryd.func51, Tryd.ntmps51
      go_wp2
      go_ret
      exact ⟨retb (by simp; omega), rfl⟩
    · go_enter Tryd.func51, Tryd.ntmps51
      go_wp2
      go_ret
      exact ⟨retb (by simp), rfl⟩
set_option maxRecDepth 100000 in
theorem sizesI_any (A : Option Addr) (n c : Nat) (l : List Int) (w : World) (h : Ints6 w A n l) (hn : n ≤ 1000000) :
    Calls Tryd.prog 62 #[.slice A n c, .func (.func 51) #[] #[]] w fun e w' => ∃ x : Int, e = .returned (.int .i64 x) ∧ decide (0 ≤ x) = (!l.all szB) ∧ w' = w := by
  have HA := Lib.hid h
  have HN := Lib.hid h.len
  have HQ := Lib.hid (fun n w1 => sizes1_any n w1)
  clear h
  go_enter Tryd.func62, Tryd.ntmps62
  go_wp2
  go_loopw [8] (fun i wr => wr = w ∧ ∃ k : Nat, k ≤ n ∧ i = .int .i64 k ∧ ∀ j (h : j < l.length), j < k → szB l[j] = true) (fun i _ => n - (intOf i).toNat)
  case atStart => exact ⟨rfl, 0, Nat.zero_le _, rfl, fun j _ hj => absurd hj (by omega)⟩
  case round =>
    obtain ⟨rfl, k, hk, rfl, hj⟩ := hrel
    have HJ := Lib.hid hj
    clear hj
    by_cases hlt : k < n
    · have hkl : k < l.length := by have := HN.out; omega
      obtain ⟨g, off, rfl, ck⟩ := HA.out.at_ (List.getElem?_eq_getElem hkl)
      have i0 : (0 : Int) ≤ (k : Int) := by omega
      have i1 : (k : Int) < (n : Int) := by omega
      cases hq : szB l[k]
      · have HF : Hid (decide (0 ≤ (k : Int)) = !l.all szB) := Lib.hid (by
          have : l.all szB = false := by
            cases e : l.all szB
            · rfl
            · rw [List.all_eq_true] at e
              rw [e _ (List.getElem_mem hkl)] at hq
              cases hq
          rw [this]
          simp)
        have HQ1 := Lib.hid (HQ.out l[k])
        rw [hq] at HQ1
        generalize l[k] = u at ck HQ1
        clear hq hkl
        go_wp2_with (go_at_call 51; (with_reducible refine (HQ1.out _).mono ?_); rintro e w2 ⟨rfl, rfl⟩)
        go_ret
        exact ⟨_, rfl, HF.out, rfl⟩
      · have HX : Hid (∀ j (h : j < l.length), j < k + 1 → szB l[j] = true) := Lib.hid (fun j h hj => by
          by_cases e : j = k
          · subst e; exact hq
          · exact HJ.out j h (by omega))
        have HQ1 := Lib.hid (HQ.out l[k])
        rw [hq] at HQ1
        generalize l[k] = u at ck HQ1
        clear hq hkl
        go_wp2_with (go_at_call 51; (with_reducible refine (HQ1.out _).mono ?_); rintro e w2 ⟨rfl, rfl⟩)
        go_roundw
        case rel => exact ⟨by first | rfl | trivial, k + 1, by omega, by go_num, HX.out⟩
        case measure => simp [intOf]; omega
    · obtain rfl : k = n := by omega
      have HF : Hid (decide (0 ≤ (-1 : Int)) = !l.all szB) := Lib.hid (by
        have : l.all szB = true := by
          rw [List.all_eq_true]
          intro x hx
          obtain ⟨j, hj, rfl⟩ := List.getElem_of_mem hx
          exact HJ.out j hj (by have := HN.out; omega)
        rw [this]
        rfl)
      go_wp2
      go_ret
      exact ⟨_, rfl, HF.out, rfl⟩
theorem areSizes_any (A : Option Addr) (n c : Nat) (l : List Int) (w : World) (h : Ints6 w A n l) (hn : n ≤ 1000000) :
    Calls Tryd.prog 32 #[.slice A n c] w fun e w' => e = .returned (.bool (l.all szB)) ∧ w = w' := by
  have HI := Lib.hid (fun w1 (hb : w1 = w) => sizesI_any A n c l w1 (hb ▸ h) hn)
  have HC : Hid (Calls Tryd.prog 50 #[.slice A n c, .func (.func 51) #[] #[]] w fun e w' => e = .returned (.bool (!l.all szB)) ∧ w = w') := Lib.hid (by
    generalize (!l.all szB) = b at HI ⊢
    clear h
    go_enter Tryd.func50, Tryd.ntmps50
    go_wp2_with (go_at_call 62; (with_reducible refine (HI.out _ rfl).mono ?_); rintro e w2 ⟨x, rfl, hx, rfl⟩)
    go_ret
    exact ⟨by rw [← hx]; rfl, rfl⟩)
  clear h HI
  generalize l.all szB = b at HC ⊢
  go_enter Tryd.func32, Tryd.ntmps32
  go_wp2_with (go_at_call 50; (with_reducible refine HC.out.mono ?_); rintro e w2 ⟨rfl, rfl⟩)
  go_ret
  exact ⟨retb (by simp), rfl⟩
theorem Has.sets {w : World} {g : Nat} {t : TypeId} : ∀ (vs : List Value) (o : Nat) (w : World) (cs : Array Value), Has w g t cs → ∃ cs', Has (w.setCells g o vs) g t cs' ∧ cs'.size = cs.size ∧ (∀ j, (j < o ∨ o + vs.length ≤ j) → cs'[j]? = cs[j]?) ∧ ∀ x, x ≠ g → (w.setCells g o vs).heap[x]? = w.heap[x]?
  | [], o, w, cs, h => ⟨cs, h, rfl, fun _ _ => rfl, fun _ _ => rfl⟩
  | v :: r, o, w, cs, h => by
    obtain ⟨cs', h1, h2, h3, h4⟩ := Has.sets (w := w) (g := g) (t := t) r (o + 1) (w.setCell ⟨g, o, none⟩ v) _ (h.store o v)
    refine ⟨cs', h1, h2.trans (by simp), fun j hj => ?_, fun x hx => (h4 x hx).trans (setCell_heap_other w ⟨g, o, none⟩ v x hx)⟩
    simp only [List.length_cons] at hj
    rw [h3 j (by omega), Array.getElem?_setIfInBounds, if_neg (by omega)]
theorem setCells_hsize (g : Nat) : ∀ (vs : List Value) (o : Nat) (w : World), (w.setCells g o vs).heap.size = w.heap.size
  | [], _, _ => rfl
  | v :: r, o, w => by
    show ((w.setCell ⟨g, o, none⟩ v).setCells g (o + 1) r).heap.size = _
    rw [setCells_hsize g r (o + 1), setCell_hsize]
theorem setCells_rest (g : Nat) : ∀ (vs : List Value) (o : Nat) (w : World), (w.setCells g o vs).os = w.os ∧ (w.setCells g o vs).tape = w.tape ∧ (w.setCells g o vs).output = w.output
  | [], _, _ => ⟨rfl, rfl, rfl⟩
  | v :: r, o, w => setCells_rest g r (o + 1) (w.setCell ⟨g, o, none⟩ v)
def newCells (m1 m2 : Nat) (x : Int) : List Value := [.int .i64 x, .map (some m1), .slice none 0 0, .map (some m2), .int .i64 (-1), .bool false]
structure NewRel (T : Tg) (d : Nat) (w : World) (A D n : Nat) (ls : List Int) (k : Nat) (T' : Tg) (wr : World) : Prop where
  tn : Tn T d w T' wr
  bel : Below w.heap.size w wr
  lo : ∀ x t, T' x = some t → x < wr.heap.size
  hd : Has wr D 68 #[.slice (some ⟨A, 0, none⟩) n n]
  td : T' D = some (d, 0)
  ta : T' A = some (d, 1)
  gA : w.heap.size ≤ A
  blk : ∃ cs, Has wr A 73 cs ∧ cs.size = n * 6
  at_ : ∀ i x, i < k → ls[i]? = some x → ∃ m1 m2 v, Ar wr T' d A i m1 m2 v (fresh6 x.toNat)
section
variable {T T' : Tg} {d A D n k : Nat} {ls : List Int} {w wr : World}
theorem NewRel.there (h : NewRel T d w A D n ls k T' wr) (hk : k < n) {W : World} (hb : Below wr.heap.size wr W) : W.there A (k * 6) 6 := fun j hj => by
  obtain ⟨cs, hA, hs⟩ := h.blk
  have hA2 := hA.below hb hA.lt
  rw [hA2.cell]
  refine ⟨?_, hA2.free _⟩
  rw [Array.getElem?_eq_getElem (by omega)]
  rfl
theorem NewRel.step (h : NewRel T d w A D n ls k T' wr) (hk : k < n) {x : Int} (hx : ls[k]? = some x) (h1 : szB x = true) :
    NewRel T d w A D n ls (k + 1) (mark (mark T' wr.heap.size (d, 3 * k + 2)) (wr.heap.size + 1) (d, 3 * k + 3)) (((wr.alloc (.map #[] 0)).alloc (.map #[] 0)).setCells A (k * 6) (newCells wr.heap.size (wr.heap.size + 1) x)) := by
  have hx1 : 1 ≤ x ∧ x ≤ 1000 := by simpa [szB] using h1
  obtain ⟨W, hW⟩ : ∃ W, (wr.alloc (.map #[] 0)).alloc (.map #[] 0) = W := ⟨_, rfl⟩
  have hb : Below wr.heap.size wr W := hW ▸ ((Below.refl _ wr).alloc (Nat.le_refl _) _).alloc (by simp) _
  have hws : W.heap.size = wr.heap.size + 2 := by rw [← hW]; simp
  have q1 : MapAt W wr.heap.size noMap := by
    rw [← hW]
    exact (MapAt.made wr).keep (Below.heap_alloc (wr.alloc (.map #[] 0)) (.map #[] 0) wr.heap.size (by simp))
  have q2 : MapAt W (wr.heap.size + 1) noMap := by
    have := MapAt.made (wr.alloc (.map #[] 0))
    rw [show (wr.alloc (.map #[] 0)).heap.size = wr.heap.size + 1 by simp, hW] at this
    exact this
  rw [hW]
  have ht := h.there hk hb
  obtain ⟨cs, hA, hs⟩ := h.blk
  have hAW := hA.below hb hA.lt
  obtain ⟨cs', hA3, hs3, he3, ho3⟩ := Has.sets (w := W) (g := A) (t := 73) (newCells wr.heap.size (wr.heap.size + 1) x) (k * 6) W cs hAW
  have hrg := World.rangeAt_setCells_same W A (k * 6) (newCells wr.heap.size (wr.heap.size + 1) x) ht
  have hsz3 := setCells_hsize A (newCells wr.heap.size (wr.heap.size + 1) x) (k * 6) W
  obtain ⟨r1, r2, r3⟩ := setCells_rest A (newCells wr.heap.size (wr.heap.size + 1) x) (k * 6) W
  generalize hw3 : W.setCells A (k * 6) (newCells wr.heap.size (wr.heap.size + 1) x) = w3 at hA3 ho3 hrg hsz3 r1 r2 r3 ⊢
  have hll : (newCells wr.heap.size (wr.heap.size + 1) x).length = 6 := rfl
  have hT : ∀ y, y < wr.heap.size → mark (mark T' wr.heap.size (d, 3 * k + 2)) (wr.heap.size + 1) (d, 3 * k + 3) y = T' y := fun y hy => by
    unfold mark
    rw [if_neg (by omega), if_neg (by omega)]
  have hA0 := hA.lt
  have hB3 : ∀ y, y < wr.heap.size → y ≠ A → w3.heap[y]? = wr.heap[y]? := fun y hy hyA => (ho3 y hyA).trans (hb.block y hy)
  have hDA : D ≠ A := h.hd.apart hA (by decide)
  have mA1 : wr.heap.size ≠ A := by omega
  have mA2 : wr.heap.size + 1 ≠ A := by omega
  refine ⟨?_, ?_, ?_, (hB3 D h.hd.lt hDA).trans h.hd, (hT D h.hd.lt).trans h.td, (hT A hA.lt).trans h.ta, h.gA, ⟨cs', hA3, hs3.trans hs⟩, fun i y hi hy => ?_⟩
  · refine ⟨r1.trans (hb.os.trans h.tn.os), r2.trans (hb.tape.trans h.tn.tape), r3.trans (hb.output.trans h.tn.output), by rw [hsz3]; exact Nat.le_trans h.tn.size hb.size, fun y hy hTy => ?_, fun y hy => ?_, fun y t hy ht => ?_⟩
    · have := h.gA
      exact (hB3 y (Nat.lt_of_lt_of_le hy h.tn.size) (by omega)).trans (h.tn.block y hy hTy)
    · exact (hT y (Nat.lt_of_lt_of_le hy h.tn.size)).trans (h.tn.old y hy)
    · unfold mark at ht
      split at ht
      · injection ht with ht
        subst ht
        exact ⟨rfl, by rw [hsz3]; omega⟩
      · split at ht
        · injection ht with ht
          subst ht
          exact ⟨rfl, by rw [hsz3]; omega⟩
        · have h5 := h.tn.new y t hy ht
          exact ⟨h5.1, by rw [hsz3]; have := h5.2; omega⟩
  · have hg := h.gA
    exact ⟨r1.trans (hb.os.trans h.bel.os), r2.trans (hb.tape.trans h.bel.tape), r3.trans (hb.output.trans h.bel.output), by rw [hsz3]; exact Nat.le_trans h.bel.size hb.size, fun y hy => (hB3 y (Nat.lt_of_lt_of_le hy h.bel.size) (by omega)).trans (h.bel.block y hy)⟩
  · intro y t ht
    unfold mark at ht
    split at ht
    · rw [hsz3]; omega
    · split at ht
      · rw [hsz3]; omega
      · have := h.lo y t ht
        rw [hsz3]; omega
  · by_cases e : i = k
    · subst e
      rw [hx] at hy
      injection hy with hy
      subst hy
      have hc : ∀ j u, (newCells wr.heap.size (wr.heap.size + 1) x)[j]? = some u → w3.cell? ⟨A, i * 6 + j, none⟩ = some u := hrg
      have hxn : (x.toNat : Int) = x := by omega
      refine ⟨wr.heap.size, wr.heap.size + 1, .slice none 0 0, by rw [show (fresh6 x.toNat).size = x.toNat from rfl, hxn]; exact hc 0 _ rfl, hc 1 _ rfl, hc 2 _ rfl, hc 3 _ rfl, hc 4 _ rfl, hc 5 _ rfl, (hT A hA.lt).trans h.ta, ?_, ?_, fun g hg => (by cases hg), ?_, ?_, World.ownsRow_nil _ _ _ _, fresh6_ok (by omega) (by omega)⟩
      · unfold mark
        rw [if_neg (by omega), if_pos rfl]
      · unfold mark
        rw [if_pos rfl]
      · exact q1.keep (ho3 _ mA1)
      · exact q2.keep (ho3 _ mA2)
    · obtain ⟨m1, m2, v, ha⟩ := h.at_ i y (by omega) hy
      refine ⟨m1, m2, v, ha.keep (fun j hj => ?_) (fun z j hj hz hlt => ⟨hB3 z hlt ?_, hT z hlt⟩) (hT A hA.lt)⟩
      · rw [hA3.cell, hA.cell]
        exact he3 _ (by rw [hll]; omega)
      · rintro rfl
        rw [h.ta] at hz
        injection hz with hz
        injection hz with _ hz
        omega
theorem NewRel.dk (h : NewRel T d w A D n ls n T' wr) (hn : n = ls.length) : Dk wr T' d D A (ls.map fun x => fresh6 x.toNat) := by
  refine ⟨?_, h.td, h.ta, ?_, fun i r hr => ?_⟩
  · rw [List.length_map, ← hn]
    exact h.hd
  · obtain ⟨cs, hA, hs⟩ := h.blk
    exact ⟨cs, hA, by rw [List.length_map, ← hn]; exact hs⟩
  · rw [List.getElem?_map] at hr
    cases hx : ls[i]? with
    | none => simp [hx] at hr
    | some x =>
      simp only [hx, Option.map_some, Option.some.injEq] at hr
      subst hr
      exact h.at_ i x (by rw [hn]; exact (List.getElem?_eq_some_iff.1 hx).1) hx
theorem NewRel.start (hlo : ∀ x t, T x = some t → x < w.heap.size) (z : Array Value) (hz : z.size = n * 6) (D : Nat) (hD : D = w.heap.size + 1) :
    NewRel T d w w.heap.size D n ls 0 (mark (mark T w.heap.size (d, 1)) D (d, 0)) ((w.alloc (.cells z 73)).alloc (.cells #[.slice (some ⟨w.heap.size, 0, none⟩) n n] 68)) := by
  obtain ⟨W, hW⟩ : ∃ W, (w.alloc (.cells z 73)).alloc (.cells #[.slice (some ⟨w.heap.size, 0, none⟩) n n] 68) = W := ⟨_, rfl⟩
  have hb : Below w.heap.size w W := hW ▸ ((Below.refl _ w).alloc (Nat.le_refl _) _).alloc (by simp) _
  have hws : W.heap.size = w.heap.size + 2 := by rw [← hW]; simp
  have h1 : Has W D 68 #[.slice (some ⟨w.heap.size, 0, none⟩) n n] := by
    have := Has.made (w.alloc (.cells z 73)) 68 #[.slice (some ⟨w.heap.size, 0, none⟩) n n]
    rw [hW, show (w.alloc (.cells z 73)).heap.size = D by rw [hD]; simp] at this
    exact this
  have h2 : Has W w.heap.size 73 z := hW ▸ (Has.made w 73 z).alloc _
  rw [hW]
  have hT : ∀ y, y < w.heap.size → mark (mark T w.heap.size (d, 1)) D (d, 0) y = T y := fun y hy => by
    unfold mark
    rw [if_neg (by omega), if_neg (by omega)]
  have hnew : ∀ y t, w.heap.size ≤ y → mark (mark T w.heap.size (d, 1)) D (d, 0) y = some t → t.1 = d ∧ y < W.heap.size := fun y t hy ht => by
    unfold mark at ht
    split at ht
    · injection ht with ht
      subst ht
      exact ⟨rfl, by omega⟩
    · split at ht
      · injection ht with ht
        subst ht
        exact ⟨rfl, by omega⟩
      · exact absurd (hlo y t ht) (by omega)
  refine ⟨⟨hb.os, hb.tape, hb.output, hb.size, fun y hy _ => hb.block y hy, hT, hnew⟩, hb, fun y t ht => ?_, h1, ?_, ?_, Nat.le_refl _, ⟨z, h2, hz⟩, fun i x hi _ => absurd hi (by omega)⟩
  · by_cases hy : y < w.heap.size
    · omega
    · exact (hnew y t (by omega) ht).2
  · unfold mark
    rw [if_pos rfl]
  · unfold mark
    rw [if_neg (by omega), if_pos rfl]
end

end Go.Proofs.YthcjledpjlpfaaaDoor
end

section
namespace Go.Proofs.YthcjledpjlpfaaaDoor
open Go.RowKit
set_option linter.unusedVariables false

theorem reti {a b : Int} (h : a = b) : Ending.returned (.int .i64 a) = .returned (.int .i64 b) := by rw [h]
theorem Ints6.below9 {w w' : World} {A : Option Addr} {n : Nat} {l : List Int} (h : Ints6 w A n l) (hb : Below w.heap.size w w') : Ints6 w' A n l := ⟨h.len, h.reads.keep_ hb⟩


theorem Ints6.take {w : World} {A : Option Addr} {n : Nat} {l : List Int} (h : Ints6 w A n l) {k : Nat} (hk : k ≤ n) : Ints6 w A k (l.take k) :=
  ⟨by rw [List.length_take, ← h.len]; omega, by rw [List.map_take]; exact h.reads.take k⟩
def okTo (l : List Int) (k : Nat) : Prop := ∀ j, j < k → pgOk (l.getD j 0) = true ∧ l.getD j 0 ∉ l.take j
end Go.Proofs.YthcjledpjlpfaaaDoor
end

section
namespace Go.Proofs.YthcjledpjlpfaaaDoor
open Go.RowKit
set_option linter.unusedVariables false

theorem lit {ops : Array Oper} {i : Nat} {o : Oper} {tl : List Oper} (h : ops.toList.drop i = o :: tl) : ops[i]? = some o := by
  have h2 := congrArg (fun l => l[0]?) h
  simp only [List.getElem?_drop, Nat.add_zero, List.getElem?_cons_zero] at h2
  rw [← h2]
  simp
theorem step_open {P : Program} {ops : Array Oper} {o : Oper} {a : Act} {w : World} {K : Act → World → Prop} {Q : Exit → Act → World → Prop} {E : Prop} (hgd : o.guard = none) (h : Oper.wp P o a w K Q) :
    if Region.wanted o (yielded ops a.tmps) = true then Oper.wp P o a w K Q else E := by
  have hw : Region.wanted o (yielded ops a.tmps) = true := by simp [Region.wanted, hgd]
  rw [if_pos hw]
  exact h
end Go.Proofs.YthcjledpjlpfaaaDoor
end
