/- Package disk: New, its walk: contract, no statement. -/
import Derived.Test.YthbchloghbfnmaaDne
namespace Go.Proofs.Ythbchloghbfnmaa
open Go.RowKit
set_option linter.unusedVariables false

def newB (ls : List Int) : Bool := decide (1 ≤ ls.length) && decide (ls.length ≤ 64) && ls.all szB
theorem area_info : (Try.prog.info? 72).map (fun i => (i.zero, i.size, i.bytes)) = some (some (.agg #[.int .i64 0, .map none, .slice none 0 0, .map none, .int .i64 0, .bool false]), 6, 64) := by kernel_rfl
theorem make_areas (n : Nat) (hn : n ≤ 1000) (w : World) : (Instr.makeSlice 65 (.int .i64 n) (.int .i64 n)).run Try.prog w = .ok (.slice (some ⟨w.heap.size, 0, none⟩) n n) (w.alloc (.cells (madeCells #[.int .i64 0, .map none, .slice none 0 0, .map none, .int .i64 0, .bool false] (n * 6)) 72)) := by
  obtain ⟨i0, hi, hz0, hz1, hz2⟩ := info_parts area_info
  have := run_make (P := Try.prog) (w := w) 65 72 i0 _ Try.underlying65 hi hz0 .i64 .i64 n n (by omega) (by omega) (by rw [hz2]; omega) (by omega)
  simp only [Int.toNat_natCast, hz1] at this
  exact this
section
variable {T : Tg} {d : Nat} {w : World}
def NewEnd (T : Tg) (d : Nat) (rs : List Rg) (w : World) (e : Ending) (w' : World) : Prop :=
  ∃ D A T', e = .returned (.tuple #[.pointer (some ⟨D, 0, none⟩), .int .i64 0]) ∧ Dk w' T' d D A rs ∧ Tn T d w T' w' ∧ Below w.heap.size w w'
set_option maxRecDepth 100000 in
set_option maxHeartbeats 4000000 in
theorem New_ok (A : Option Addr) (n c : Nat) (ls : List Int) (h : Ints6 w A n ls) (hlo : ∀ x t, T x = some t → x < w.heap.size) (hb : newB ls = true) :
    Calls Try.prog 10 #[.slice A n c] w (NewEnd T d (ls.map fun x => fresh6 x.toNat) w) := by
  have hb' : (1 ≤ ls.length ∧ ls.length ≤ 64) ∧ ls.all szB = true := by simpa [newB] using hb
  obtain ⟨⟨n1, n2⟩, hall⟩ := hb'
  have hnl := h.len
  rw [← hnl] at n1 n2
  have HS := Lib.hid (areSizes_any A n c ls w h (by omega))
  rw [hall] at HS
  have HA := Lib.hid h
  have HN := Lib.hid hnl
  have HALL := Lib.hid hall
  have hmk := make_areas n (by omega)
  obtain ⟨z, hz⟩ : ∃ z, madeCells #[Value.int .i64 0, .map none, .slice none 0 0, .map none, .int .i64 0, .bool false] (n * 6) = z := ⟨_, rfl⟩
  have hzs : z.size = n * 6 := by rw [← hz, size_madeCells]
  rw [hz] at hmk
  have ST := Lib.hid (NewRel.start (T := T) (d := d) (n := n) (ls := ls) hlo z hzs (w.heap.size + 1) rfl)
  have hmm := @run_makeMap Try.prog
  clear h hlo hb hall hnl hz
  go_enter Try.func10, Try.ntmps10
  go_wp2_with (go_at_call 30; (with_reducible refine HS.out.mono ?_); rintro e w2 ⟨rfl, rfl⟩)
  go_loopw [27] (fun i wr => ∃ k : Nat, k ≤ n ∧ i = .int .i64 (k : Int) ∧ ∃ T', NewRel T d w w.heap.size (w.heap.size + 1) n ls k T' wr) (fun i _ => n - (intOf i).toNat)
  case atStart => exact ⟨0, Nat.zero_le _, rfl, _, ST.out⟩
  case round =>
    obtain ⟨k, hk, rfl, T', hr⟩ := hrel
    have HR := Lib.hid hr
    have cD := hr.hd.cell0
    clear hr
    by_cases hlt : k < n
    · have hkl : k < ls.length := by rw [← HN.out]; exact hlt
      obtain ⟨x, hx⟩ : ∃ x, ls[k]? = some x := ⟨_, List.getElem?_eq_getElem hkl⟩
      obtain ⟨g, off, hA, hc⟩ := HA.out.at_ hx
      subst hA
      have hc2 := cellB hc HR.out.bel
      have hsx : szB x = true := by
        have := HALL.out
        rw [List.all_eq_true] at this
        exact this x (List.mem_of_getElem? hx)
      have NXT := Lib.hid (HR.out.step hlt hx hsx)
      have i0 : (0 : Int) ≤ (k : Int) := by omega
      have i1 : (k : Int) < (n : Int) := by omega
      have hst : (Instr.storeAt 72 (.pointer (some ⟨w.heap.size, k * 6, none⟩)) (.agg (newCells wr.heap.size (wr.heap.size + 1) x).toArray)).run Try.prog ((wr.alloc (.map #[] 0)).alloc (.map #[] 0)) = .ok () (((wr.alloc (.map #[] 0)).alloc (.map #[] 0)).setCells w.heap.size (k * 6) (newCells wr.heap.size (wr.heap.size + 1) x)) :=
        run_storeAt_mid _ w.heap.size (k * 6) 72 _ (HR.out.there hlt (((Below.refl _ wr).alloc (Nat.le_refl _) _).alloc (by simp) _)) (by kernel_rfl) (by simp [newCells, Value.oneCell'])
      clear hc hx hsx hkl
      have cD2 : ((wr.alloc (.map #[] 0)).alloc (.map #[] 0)).cell? ⟨w.heap.size + 1, 0, none⟩ = some (.slice (some ⟨w.heap.size, 0, none⟩) n n) := cellB cD (((Below.refl _ wr).alloc (Nat.le_refl _) _).alloc (by simp) _)
      unfold newCells at hst
      generalize hw3 : ((wr.alloc (.map #[] 0)).alloc (.map #[] 0)).setCells w.heap.size (k * 6) _ = w3 at hst
      have HW3 := Lib.hid hw3
      clear hw3
      go_wp2_with (refine wpL_store rfl 72 (.tmp 41) (.tmp 40) rfl _ _ rfl rfl _ hst ?_)
      go_roundw
      case rel => exact ⟨k + 1, by omega, by go_num, _, by rw [← HW3.out]; exact NXT.out⟩
      case measure => simp [intOf]; omega
    · obtain rfl : k = n := by omega
      obtain ⟨w3, hw3⟩ : ∃ w3 : World, w3 = wr := ⟨_, rfl⟩
      subst hw3
      go_wp2
      go_ret2
      exact ⟨_, _, T', rfl, HR.out.dk HN.out, HR.out.tn, HR.out.bel⟩
theorem New_bad (A : Option Addr) (n c : Nat) (ls : List Int) (w : World) (h : Ints6 w A n ls) (hn : n ≤ 1000000) (hb : newB ls = false) :
    Calls Try.prog 10 #[.slice A n c] w fun e w' => e = .returned (.tuple #[.pointer none, .int .i64 1]) ∧ w = w' := by
  have hnl := h.len
  by_cases h1 : n < 1
  · have e1 : decide ((n : Int) < 1) = true := by simp; omega
    clear h hb hnl
    go_enter Try.func10, Try.ntmps10
    go_wp2
    go_ret2
    exact ⟨rfl, rfl⟩
  · have e1 : decide ((n : Int) < 1) = false := by simp; omega
    by_cases h2 : 64 < n
    · have e2 : decide (64 < (n : Int)) = true := by simp; omega
      clear h hb hnl
      go_enter Try.func10, Try.ntmps10
      go_wp2
      go_ret2
      exact ⟨rfl, rfl⟩
    · have e2 : decide (64 < (n : Int)) = false := by simp; omega
      have hall : ls.all szB = false := by
        cases hq : ls.all szB
        · rfl
        · have : newB ls = true := by
            unfold newB
            rw [hq]
            simp
            omega
          rw [this] at hb
          cases hb
      have HS := Lib.hid (areSizes_any A n c ls w h (by omega))
      rw [hall] at HS
      clear h hb hnl hall
      go_enter Try.func10, Try.ntmps10
      go_wp2_with (go_at_call 30; (with_reducible refine HS.out.mono ?_); rintro e w2 ⟨rfl, rfl⟩)
      go_ret2
      exact ⟨rfl, rfl⟩
end

end Go.Proofs.Ythbchloghbfnmaa
