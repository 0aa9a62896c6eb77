/- Package disk: Loose: contract, no statement. -/
import Derived.Test.YthbchloghbfnmaaDcr
namespace Go.Proofs.Ythbchloghbfnmaa
open Go.RowKit
set_option linter.unusedVariables false

theorem below_ownR {base : Nat} {W w w' : World} {v : Value} {n : Nat} {e : TypeId} {s : Nat} {xs : List Value} (h : Below base W w) (hg : w.grownBy w' v.ownBlock) (ho : w.ownsRow base e s v n xs) (hs : base ≤ w.heap.size) : Below base W w' :=
  h.grown hg hs (fun k hk => (ho.lt k hk).1)
def looL (rs : List Rg) (x : Int) : List Int := match regN rs x with
  | none => []
  | some r => r.loose.map (·.1)
def IntsOut (l : List Int) (w : World) (e : Ending) (w' : World) : Prop := ∃ v, e = .returned v ∧ w'.ownsRow w.heap.size 3 1 v l.length (l.map (Value.int .i64)) ∧ Below w.heap.size w w'
theorem int_info : (Try.prog.info? 3).map (fun i => (i.zero, i.size, i.bytes)) = some (some (.int .i64 0), 1, 8) := by kernel_rfl
section
variable {w : World} {T : Tg} {d D A : Nat} {rs : List Rg}
set_option maxRecDepth 100000 in
set_option maxHeartbeats 4000000 in
theorem Loose_any (x : Int) (h : Dk w T d D A rs) (hm : ∀ r ∈ rs, r.loose.length ≤ 1000) : Calls Try.prog 25 #[.pointer (some ⟨D, 0, none⟩), .int .i64 x] w (IntsOut (looL rs x) w) := by
  have HF := Lib.hid (find_any x h)
  have HD := Lib.hid h
  unfold findV at HF
  cases hr : regN rs x with
  | none =>
    rw [show looL rs x = [] by simp [looL, hr]]
    simp only [hr] at HF
    clear h hr hm
    go_enter Try.func25, Try.ntmps25
    go_wp2_with (go_at_call 41; (with_reducible refine HF.out.mono ?_); rintro e w2 ⟨rfl, rfl⟩)
    go_ret
    exact ⟨_, rfl, World.ownsRow_nil _ _ _ _, Below.refl _ _⟩
  | some r =>
    obtain ⟨h1, h2, h3⟩ := regN_some hr
    obtain ⟨m1, m2, v, ha⟩ := h.at_ _ r h3
    have hmr := hm r (List.mem_of_getElem? h3)
    rw [show looL rs x = r.loose.map (·.1) by simp [looL, hr]]
    simp only [hr] at HF
    have c2 := ha.c2
    obtain ⟨vA, vk, rfl⟩ := own_slw ha.row
    have HH := Lib.hid ha
    have hz0 := zero_write
    have hzs := wzero_size
    generalize (Value.int .i64 0 :: zeros.map byteV).toArray = zw at hz0 hzs
    have HZ := Lib.hid hz0
    obtain ⟨n, hnn⟩ : ∃ n, r.loose.length = n := ⟨_, rfl⟩
    have HN := Lib.hid hnn
    rw [hnn] at c2 hmr
    obtain ⟨j0, hj, jz0, jz1, jz2⟩ := info_parts int_info
    clear h hr hm h1 h2 h3 ha hz0 hnn
    go_enter Try.func25, Try.ntmps25
    go_wp2_with (go_at_call 41; (with_reducible refine HF.out.mono ?_); rintro e w2 ⟨rfl, rfl⟩)
    go_loopw [6, 19] (fun v i wr => ∃ k : Nat, k ≤ n ∧ i = .int .i64 (k : Int) ∧ wr.ownsRow w.heap.size 3 1 v k (((r.loose.take k).map (·.1)).map (Value.int .i64)) ∧ Below w.heap.size w wr) (fun _ i _ => n - (intOf i).toNat)
    case atStart => exact ⟨0, Nat.zero_le _, rfl, World.ownsRow_nil _ _ _ _, Below.refl _ _⟩
    case round =>
      obtain ⟨k, hk, rfl, ho, hb⟩ := hrel
      have HO := Lib.hid ho
      have HB := Lib.hid hb
      clear ho hb
      by_cases hlt : k < n
      · have hkl : k < r.loose.length := by rw [HN.out]; exact hlt
        obtain ⟨y, hyk⟩ : ∃ y, r.loose[k]? = some y := ⟨_, List.getElem?_eq_getElem hkl⟩
        have hy128 := (HH.out.ok.loose y (List.mem_of_getElem? hyk)).2.2
        obtain ⟨g, cap, hv, hrg⟩ := row_range (own_keep (w' := wr) HH.out.row (fun g hg => HB.out.block g (own_lt HH.out.row hg))) (fun y hy => (HH.out.ok.loose y hy).2.2) hyk
        have hvs : vA = some ⟨g, 0, none⟩ := by injection hv
        have hld := load_write hy128 hrg
        have hst := store_write wr hy128 hzs
        have hz1 := HZ.out wr
        obtain ⟨W, hW⟩ : ∃ W, wr.alloc (.cells (cellsW y).toArray 91) = W := ⟨_, rfl⟩
        have BW : Below wr.heap.size wr W := hW ▸ (Below.refl _ wr).alloc (Nat.le_refl _) _
        have RM : W.rangeAt wr.heap.size 0 (cellsW y) := hW ▸ range_made wr y
        have cy : W.cell? ⟨wr.heap.size, 0, none⟩ = some (.int .i64 y.1) := by simpa using RM 0 (.int .i64 y.1) (by simp [cellsW])
        have OW : Hid (W.ownsRow w.heap.size 3 1 u6 k (((r.loose.take k).map (·.1)).map (Value.int .i64))) := Lib.hid (hW ▸ HO.out.alloc _)
        have BBW := Lib.hid (below_step HB.out BW)
        have hws : W.heap.size = wr.heap.size + 1 := by rw [← hW]; simp
        have HWS := Lib.hid hws
        have NEXT : Hid (((r.loose.take (k + 1)).map (·.1)).map (Value.int .i64) = ((r.loose.take k).map (·.1)).map (Value.int .i64) ++ [.int .i64 y.1]) := Lib.hid (by
          rw [List.take_add_one, hyk]
          simp)
        rw [hW] at hst
        have i0 : (0 : Int) ≤ (k : Int) := by omega
        have i1 : (k : Int) < (n : Int) := by omega
        subst hvs
        clear hv hrg hkl hyk RM BW hW hws
        generalize hcv : (cellsW y).toArray = cw at hld hst
        clear hcv
        go_wp2_with (first
          | (refine wpL_load rfl 91 (.tmp 21) rfl _ rfl _ hld ?_)
          | (refine wpL_store rfl 91 (.tmp 8) (.tmp 22) rfl _ _ rfl rfl _ hst ?_)
          | (at_builtin; refine wpList_append_own _ rfl _ _ 22 rfl w.heap.size 3 j0 (.int .i64 0) 1 8 Try.underlying22 hj jz0 jz1 jz2 rfl (by decide) _ k _ rfl (OW.out.alloc _) ⟨W.heap.size, 0, none⟩ 1 1 [.int .i64 y.1] rfl rfl ?_ ?_ ?_ ?_ ?_ ?_; (exact cell_one_new _ _ _); (intro u hu; simp at hu; subst hu; rfl); (unfold maxLen; omega); (omega); (have hq := BBW.out.size; simp; omega); intro v4 w4 h7 h8 h9; have O4 := Lib.hid h7; have B4 := Lib.hid (below_ownR (BBW.out.alloc BBW.out.size (.cells #[.int .i64 y.1] 3)) h8 (OW.out.alloc (.cells #[.int .i64 y.1] 3)) (by have := BBW.out.size; simp; omega)); clear h7 h8 h9))
        go_roundw
        case rel => exact ⟨k + 1, by omega, by go_num, by rw [NEXT.out]; exact O4.out, B4.out⟩
        case measure => simp [intOf]; omega
      · obtain rfl : k = n := by omega
        obtain ⟨w3, hw3⟩ : ∃ w3 : World, w3 = wr := ⟨_, rfl⟩
        subst hw3
        go_wp2
        go_ret
        refine ⟨_, rfl, ?_, HB.out⟩
        have := HO.out
        rw [List.take_of_length_le (Nat.le_of_eq HN.out)] at this
        rw [List.length_map, HN.out]
        exact this
theorem Loose_nil (x : Int) (w : World) : Calls Try.prog 25 #[.pointer none, .int .i64 x] w fun e w' => e = .returned (.slice none 0 0) ∧ w = w' := by
  go_enter Try.func25, Try.ntmps25
  go_wp2_with (go_at_call 41; (with_reducible refine (find_nil x _).mono ?_); rintro e w2 ⟨rfl, rfl⟩)
  go_ret
  exact ⟨rfl, rfl⟩
end

end Go.Proofs.Ythbchloghbfnmaa
