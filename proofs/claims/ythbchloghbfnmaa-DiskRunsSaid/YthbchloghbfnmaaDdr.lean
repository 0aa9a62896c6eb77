/- Package disk: Read: contract, no statement. -/
import Derived.Test.YthbchloghbfnmaaDdk
namespace Go.Proofs.Ythbchloghbfnmaa
open Go.RowKit
set_option linter.unusedVariables false

/-- What Read tells: the error, and the page. -/
def rdE (rs : List Rg) (x p : Int) : Int := match regN rs x with
  | none => 2
  | some r => if r.down then 3 else if hasB r p then 0 else 2
def rdL (rs : List Rg) (x p : Int) : List UInt8 := match regN rs x with
  | none => []
  | some r => if r.down then [] else if hasB r p then rdP r p else []
def RdEnd (l : List UInt8) (er : Int) (w : World) (e : Ending) (w' : World) : Prop :=
  Below w.heap.size w w' ∧ ((er ≠ 0 ∧ l = [] ∧ e = .returned (.tuple #[.slice none 0 0, .int .i64 er])) ∨
    (er = 0 ∧ ∃ g, e = .returned (.tuple #[.slice (some ⟨g, 0, none⟩) 128 128, .int .i64 0]) ∧ w.heap.size ≤ g ∧ Has w' g 88 (l.map byteV).toArray ∧ l.length = 128))
section
variable {w : World} {T : Tg} {d D A : Nat} {rs : List Rg}
set_option maxRecDepth 100000 in
set_option maxHeartbeats 2000000 in
theorem Read_any (x p : Int) (h : Dk w T d D A rs) : Calls Try.prog 21 #[.pointer (some ⟨D, 0, none⟩), .int .i64 x, .int .i64 p] w (RdEnd (rdL rs x p) (rdE rs x p) w) := by
  have HF := Lib.hid (running_any x h)
  cases hr : regN rs x with
  | none =>
    rw [show rdL rs x p = [] by simp [rdL, hr], show rdE rs x p = 2 by simp [rdE, hr]]
    rw [runV_none hr] at HF
    clear h hr
    go_enter Try.func21, Try.ntmps21
    go_wp2_with (go_at_call 31; (with_reducible refine HF.out.mono ?_); rintro e w2 ⟨rfl, rfl⟩)
    go_ret2
    exact ⟨Below.refl _ _, .inl ⟨by decide, rfl, rfl⟩⟩
  | some r =>
    obtain ⟨h1, h2, h3⟩ := regN_some hr
    obtain ⟨m1, m2, v, ha⟩ := h.at_ _ r h3
    cases hd : r.down
    · rw [runV_up hr hd] at HF
      have HH := Lib.hid (has_any p w ha)
      cases hh : hasB r p
      · rw [show rdL rs x p = [] by simp [rdL, hr, hd, hh], show rdE rs x p = 2 by simp [rdE, hr, hd, hh]]
        rw [hh] at HH
        clear h hr h1 h2 h3 ha hd hh
        go_enter Try.func21, Try.ntmps21
        go_wp2_with (first
          | (go_at_call 31; (with_reducible refine HF.out.mono ?_); rintro e w2 ⟨rfl, rfl⟩)
          | (go_at_call 32; (with_reducible refine HH.out.mono ?_); rintro e w2 ⟨rfl, rfl⟩))
        go_ret2
        exact ⟨Below.refl _ _, .inl ⟨by decide, rfl, rfl⟩⟩
      · rw [show rdL rs x p = rdP r p by simp [rdL, hr, hd, hh], show rdE rs x p = 0 by simp [rdE, hr, hd, hh]]
        rw [hh] at HH
        have HR := Lib.hid (read_any p w ha)
        have hlen := rdP_len ha.ok p
        generalize rdP r p = l at HR hlen ⊢
        have hz := (zero_of_info info_content).1
        have hst := fun w : World => store_content w (l := zeros) (l' := l) (by simp [zeros]) hlen
        obtain ⟨zc, hzc⟩ : ∃ zc, (zeros.map byteV).toArray = zc := ⟨_, rfl⟩
        have hz1 : ∀ w, (zeroValue 88).run Try.prog w = .ok (.agg zc) w := fun w => by rw [← hzc]; exact hz w
        rw [hzc] at hst
        have HL := Lib.hid hlen
        have HZ := Lib.hid hz1
        have HS := Lib.hid hst
        clear h hr h1 h2 h3 ha hd hh hzc hz hst hlen hz1
        go_enter Try.func21, Try.ntmps21
        go_wp2_with (first
          | (go_at_call 31; (with_reducible refine HF.out.mono ?_); rintro e w2 ⟨rfl, rfl⟩)
          | (go_at_call 32; (with_reducible refine HH.out.mono ?_); rintro e w2 ⟨rfl, rfl⟩)
          | (go_at_call 45; (with_reducible refine HR.out.mono ?_); rintro e w2 ⟨rfl, hb⟩; have B2 := Lib.hid hb; have hst2 := HS.out w2; have hz2 := HZ.out w2; have hpv : ∃ pv, pageV l = pv := ⟨_, rfl⟩; obtain ⟨W, hW⟩ : ∃ W, w2.alloc (.cells zc 88) = W := ⟨_, rfl⟩; rw [hW] at hst2; clear hb)
          | (refine wpL_store rfl 88 (.tmp 10) (.tmp 26) rfl _ _ rfl rfl _ hst2 ?_))
        go_ret2
        exact ⟨B2.out.alloc B2.out.size _, .inr ⟨rfl, _, rfl, B2.out.size, Has.made _ _ _, HL.out⟩⟩
    · rw [show rdL rs x p = [] by simp [rdL, hr, hd], show rdE rs x p = 3 by simp [rdE, hr, hd]]
      rw [runV_down hr hd] at HF
      clear h hr h1 h2 h3 ha hd
      go_enter Try.func21, Try.ntmps21
      go_wp2_with (go_at_call 31; (with_reducible refine HF.out.mono ?_); rintro e w2 ⟨rfl, rfl⟩)
      go_ret2
      exact ⟨Below.refl _ _, .inl ⟨by decide, rfl, rfl⟩⟩
theorem Read_nil (x p : Int) (w : World) : Calls Try.prog 21 #[.pointer none, .int .i64 x, .int .i64 p] w (RdEnd [] 1 w) := by
  go_enter Try.func21, Try.ntmps21
  go_wp2_with (go_at_call 31; (with_reducible refine (running_nil x _).mono ?_); rintro e w2 ⟨rfl, rfl⟩)
  go_ret2
  exact ⟨Below.refl _ _, .inl ⟨by decide, rfl, rfl⟩⟩
end

end Go.Proofs.Ythbchloghbfnmaa
