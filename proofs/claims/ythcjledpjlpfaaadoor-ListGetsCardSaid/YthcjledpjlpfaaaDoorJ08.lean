import Derived.Test.YthcjledpjlpfaaaDoorJ07
import Derived.Test.YthcjledpjlpfaaaDoorJ04
import Derived.OwnWalk
/- Of a claim's texts, joined: Cee Dxb Dxc Dxd Dxe. No statement but in the last. -/
section
namespace Go.Proofs.YthcjledpjlpfaaaDoor
open Go.RowKit
set_option linter.unusedVariables false

theorem Arg.of_row {w : World} {lo n c : Nat} {A : Option Addr} {l : List UInt8} (h : Row w 5 lo A (l.map byteV)) (hn : n = l.length) (h0 : 0 < n) (hc : n ≤ c) (hm : c ≤ maxLen) : Arg w A n c l :=
  ⟨hn, h.reads, fun _ a ha => by
    obtain ⟨g, off, cs, hA, _, hg, _⟩ := h (by rw [List.length_map]; omega)
    rw [ha] at hA
    injection hA with hA
    subst hA
    exact hg.lt, hc, hm, fun hA => absurd hA (h.some_ (by rw [List.length_map]; omega))⟩
theorem beq_any (A B : Option Addr) (n c m d : Nat) (l k : List UInt8) (w : World) (v : Bool) (hv : (l == k) = v) (hn : n = l.length) (hm : m = k.length) (h : Reads w A (l.map byteV)) (h' : Reads w B (k.map byteV)) :
    Calls Tryd.prog 67 #[.slice A n c, .slice B m d] w fun e w' => e = .returned (.bool v) ∧ w = w' := by
  have h1 := run_string_of (P := Tryd.prog) w 32 9 5 Tryd.underlying32 Tryd.underlying5 Tryd.underlying9 (cap := c) hn h
  have h2 := run_string_of (P := Tryd.prog) w 32 9 5 Tryd.underlying32 Tryd.underlying5 Tryd.underlying9 (cap := d) hm h'
  clear h h' hn hm
  go_enter Tryd.func67, Tryd.ntmps67
  go_wp2
  go_ret
  exact ⟨rfl, rfl⟩

def UnpEnd (r : UInt8 × List (List UInt8) × Int) (w : World) (e : Ending) (w' : World) : Prop :=
  ∃ A n c q, e = .returned (.tuple #[.int .u8 (r.1.toNat : Int), .slice A n c, .int .i64 r.2.2]) ∧ CellsA w' A n c q ∧ lq q = r.2.1 ∧ Below w.heap.size w w'
theorem UnpEnd.no {w w' : World} {er : Int} (h : Below w.heap.size w w') : UnpEnd (0, [], er) w (.returned (.tuple #[.int .u8 0, .slice none 0 0, .int .i64 er])) w' := ⟨none, 0, 0, [], rfl, CellsA.none_ _, rfl, h⟩
theorem cells_few {b : List UInt8} {q : List Hd} (hb : b.length = 128) (h : lq q = cCells b) : Few q := by
  have h1 : q.length ≤ 122 := by
    rw [← lq_len, h]
    unfold cCells
    refine Nat.le_trans (cCut_len _ _ _) ?_
    unfold cSlotsOf
    rw [List.length_take, List.length_drop, hb]
    omega
  refine ⟨by omega, fun x hx => ?_⟩
  have hm : x.l ∈ cCells b := by rw [← h]; exact List.mem_map_of_mem hx
  have hall : ∀ (ss : List UInt8) (e : Nat), ∀ y ∈ cCut b ss e, y.length ≤ 128 := by
    intro ss
    induction ss with
    | nil => intro e y hy; simp [cCut] at hy
    | cons s ss ih =>
      intro e y hy
      simp only [cCut] at hy
      split at hy
      · cases hy
      · rcases List.mem_cons.1 hy with rfl | hy
        · rw [List.length_take, List.length_drop]
          omega
        · exact ih _ _ hy
  have := hall _ _ _ hm
  omega

theorem ceUnpack_len (A : Option Addr) (n c : Nat) (l : List UInt8) (w : World) (h : Arg w A n c l) (hl : l.length ≠ 128) :
    Calls Tryd.prog 54 #[.slice A n c] w (UnpEnd (unpN l) w) := by
  have hu : unpN l = (0, [], 1) := by unfold unpN; rw [if_pos hl]
  have hne : ((n : Int) != 128) = true := by have := h.len; simp; omega
  rw [hu]
  go_enter Tryd.func54, Tryd.ntmps54
  go_wp2
  go_ret3
  exact UnpEnd.no (Below.refl _ _)
theorem ceUnpack_sum (A : Option Addr) (c : Nat) (l : List UInt8) (w : World) (ht : Tab w) (h : Arg w A 128 c l) (hg : ¬ isTag l) :
    Calls Tryd.prog 54 #[.slice A 128 c] w (UnpEnd (unpN l) w) := by
  have hu : unpN l = (0, [], 12) := by unfold unpN; rw [if_neg (by have := h.len; omega), if_pos hg]
  have HO := Lib.hid (open_no l w A 128 c ht h.len h.room (by have := h.len; omega) hg h.reads)
  rw [hu]
  clear ht h hg hu
  go_enter Tryd.func54, Tryd.ntmps54
  go_wp2_with (go_at_call 64; refine HO.out.mono ?_; rintro e w1 ⟨rfl, h1⟩; have B1 := Lib.hid h1; clear h1)
  go_ret3
  exact UnpEnd.no B1.out

set_option maxRecDepth 100000 in
set_option maxHeartbeats 4000000 in
theorem ceUnpack_page (A : Option Addr) (c : Nat) (l : List UInt8) (w : World) (ht : Tab w) (h : Arg w A 128 c l) (hg : isTag l) :
    Calls Tryd.prog 54 #[.slice A 128 c] w (UnpEnd (unpN l) w) := by
  have hlen := h.len
  have HLN : Hid (l.length = 128) := Lib.hid hlen.symm
  have HO := Lib.hid (cOpen_any A 128 c l w ht hlen h.room (by omega) h.reads)
  have HG := Lib.hid hg
  have HT := Lib.hid ht
  have HA := Lib.hid h
  have hc := h.room
  have hcm := h.most
  unfold maxLen at hcm
  obtain ⟨g, off, rfl, hcell⟩ := h.reads (by simp; omega)
  obtain ⟨x, hx⟩ : ∃ x, l[4]? = some x := ⟨_, List.getElem?_eq_getElem (by omega)⟩
  have h4 : ∀ W, Below w.heap.size w W → W.cell? ⟨g, off + 4, none⟩ = some (.int .u8 (x.toNat : Int)) := fun W hb => by
    have := hcell 4 (byteV x) (by simp [hx])
    exact (hb.cell (p := ⟨g, off + 4, none⟩) (World.block_lt_of_cell? w _ this)).trans this
  have HC4 := Lib.hid h4
  have HX : Hid (cKind l = x) := Lib.hid (by unfold cKind; rw [hx]; rfl)
  have HCL := Lib.hid (fun W (hb : Below w.heap.size w W) => show Calls Tryd.prog 66 #[.slice (some ⟨g, off, none⟩) 128 c] W (Fresh W.heap.size l W) by
    have := clone_any (some ⟨g, off, none⟩) c l W (by omega) (h.below hb).reads
    rw [← hlen] at this
    exact this)
  clear hcell h hx h4 hlen ht hg
  go_enter Tryd.func54, Tryd.ntmps54
  go_wp2_with (go_at_call 64; refine HO.out.mono ?_; rintro e w1 hh; rcases hh with ⟨_, A1, c1, rfl, _, h2⟩ | ⟨hno, _⟩; rotate_left; (exact absurd HG.out hno); have B1 := Lib.hid h2; clear h2)
  have BQ := B1.out.drew
  have hS := HC4.out _ BQ
  have hmx : Tryd.prog.follows .mixedOrders = true := by kernel_rfl
  rename_i K hK
  refine wp_held (fun w' : World => w'.cell? ⟨g, off + 4, none⟩ = some (.int .u8 (x.toNat : Int))) K hmx ?_ (fun _ _ h => h)
  refine wpAnyH_take (i := 0) (v := .slice (some ⟨g, off, none⟩) 128 c) rfl (by kernel_rfl) (by kernel_rfl) (by kernel_rfl) (fun _ _ _ h => h) (Or.inl ⟨by rfl, ?_⟩) hS ?_
  · rintro w6 s1
    go_simp
  simp only [Act.put, List.setIfInBounds_toArray, List.set_cons_zero, List.set_cons_succ, List.getElem_toArray, List.getElem_cons_zero]
  refine wpAnyH_take (i := 1) (v := .pointer (some ⟨g, off + 4, none⟩)) rfl (by kernel_rfl) (by kernel_rfl) (by kernel_rfl) (fun _ _ _ h => h) (Or.inl ⟨by rfl, ?_⟩) hS ?_
  · rintro w6 s1
    go_simp
  simp only [Act.put, List.setIfInBounds_toArray, List.set_cons_zero, List.set_cons_succ, List.getElem_toArray, List.getElem_cons_zero, List.getElem_cons_succ]
  refine wpAnyH_take (i := 2) (v := .int .u8 (x.toNat : Int)) rfl (by kernel_rfl) (by kernel_rfl) (by kernel_rfl) (fun _ _ _ h => h) (Or.inl ⟨by rfl, ?_⟩) hS ?_
  · rintro w6 s1
    go_simp
  simp only [Act.put, List.setIfInBounds_toArray, List.set_cons_zero, List.set_cons_succ, List.getElem_toArray, List.getElem_cons_zero, List.getElem_cons_succ]
  refine wpAnyH_take (i := 3) (v := .slice (some ⟨g, off, none⟩) 128 c) rfl (by kernel_rfl) (by kernel_rfl) (by kernel_rfl) (fun _ _ _ h => h) (Or.inl ⟨by rfl, ?_⟩) hS ?_
  · rintro w6 s1
    go_simp
  simp only [Act.put, List.setIfInBounds_toArray, List.set_cons_zero, List.set_cons_succ, List.getElem_toArray, List.getElem_cons_zero, List.getElem_cons_succ]
  refine wpAnyH_ready (rs := [4]) (by kernel_rfl) (by simp) ?_
  refine AllReadyH.cons rfl (fun K5 hK5 => ?_) AllReadyH.nil
  go_simp
  go_at_call 66
  (with_reducible refine (HCL.out _ BQ).mono ?_)
  rintro e w2 ⟨A2, c2, rfl, k1, k2, k3, k4⟩
  have hA2 := Arg.of_row k3 rfl (by rw [HLN.out]; decide) k1 k2
  rw [HLN.out] at hA2
  have HCUT : Calls Tryd.prog 65 #[.slice A2 l.length c2] w2 (CutEnd w2 (cCells l)) := by rw [HLN.out]; exact ceCut_any A2 c2 l w2 hA2
  have hS2 : (fun w' : World => w'.cell? ⟨g, off + 4, none⟩ = some (.int .u8 (x.toNat : Int))) w2 := HC4.out w2 (below_step BQ k4)
  refine hK5.out _ _ hS2 (fun _ => ?_)
  clear hK5 K5
  refine wpAnyH_ready (rs := [5]) (by kernel_rfl) (by simp) ?_
  refine AllReadyH.cons rfl (fun K5 hK5 => ?_) AllReadyH.nil
  go_simp
  go_at_call 65
  refine HCUT.mono ?_
  rintro e w3 ⟨A3, n3, c3, q3, rfl, m1, m2, m3⟩
  have hS3 : (fun w' : World => w'.cell? ⟨g, off + 4, none⟩ = some (.int .u8 (x.toNat : Int))) w3 := HC4.out w3 (below_step BQ (below_step k4 m3))
  refine hK5.out _ _ hS3 (fun _ => ?_)
  clear hK5 K5
  refine wpAnyH_take (i := 6) (v := .int .u8 (x.toNat : Int)) rfl (by kernel_rfl) (by kernel_rfl) (by kernel_rfl) (fun _ _ _ h => h) (Or.inl ⟨by rfl, ?_⟩) hS3 ?_
  · rintro w6 s1
    go_simp
  simp only [Act.put, List.setIfInBounds_toArray, List.set_cons_zero, List.set_cons_succ, List.getElem_toArray, List.getElem_cons_zero, List.getElem_cons_succ]
  refine wpAnyH_take (i := 7) (v := .slice A3 n3 c3) rfl (by kernel_rfl) (by kernel_rfl) (by kernel_rfl) (fun _ _ _ h => h) (Or.inl ⟨by rfl, ?_⟩) hS3 ?_
  · rintro w6 s1
    go_simp
  simp only [Act.put, List.setIfInBounds_toArray, List.set_cons_zero, List.set_cons_succ, List.getElem_toArray, List.getElem_cons_zero, List.getElem_cons_succ]
  refine wpAnyH_done (by kernel_rfl) ?_ _
  refine hK _ _ ?_
  have M1 := Lib.hid m1
  have M2 := Lib.hid m2
  have B3 := Lib.hid (below_step BQ (below_step k4 m3))
  have HF := Lib.hid (cells_few HLN.out m2)
  clear m1 m2 k4 m3 k1 k2 k3 HCUT hA2 hS hS2 hS3 BQ
  by_cases hy : cFits x (cCells l)
  · have HP := Lib.hid (cePack_yes x A3 n3 c3 q3 w3 (HT.out.below B3.out) M1.out HF.out (by rw [M2.out]; exact hy))
    rw [M2.out] at HP
    have HPL := Lib.hid (cPage_len x (cCells l) hy.2)
    by_cases he : cPage x (cCells l) = l
    · have hul : unpN l = (x, cCells l, 0) := by rw [unpN_yes HLN.out HG.out ⟨by rw [HX.out]; exact hy, by rw [HX.out]; exact he⟩, HX.out]
      rw [hul]
      have HQ := Lib.hid (fun A c9 W (h : Reads W A ((cPage x (cCells l)).map byteV)) (hb : Below w.heap.size w W) => beq_any A (some ⟨g, off, none⟩) 128 c9 128 c (cPage x (cCells l)) l W true (by rw [he]; simp) HPL.out.symm HLN.out.symm h (HA.out.below hb).reads)
      clear hul he hy
      go_wp2_with (first
        | (go_at_call 47; refine HP.out.mono ?_; rintro e w4 ⟨A4, c4, rfl, _, _, r4, b4⟩; have R4 := Lib.hid r4; have B4 := Lib.hid b4; clear r4 b4)
        | (go_at_call 67; refine (HQ.out _ _ _ R4.out.reads (below_step B3.out B4.out)).mono ?_; rintro e w5 ⟨rfl, rfl⟩))
      go_ret3
      exact ⟨A3, n3, c3, q3, rfl, M1.out.below B4.out, M2.out, below_step B3.out B4.out⟩
    · have hul : unpN l = (0, [], 11) := unpN_no HLN.out HG.out (fun h => he (by have := h.2; rwa [HX.out] at this))
      rw [hul]
      have HQ := Lib.hid (fun A c9 W (h : Reads W A ((cPage x (cCells l)).map byteV)) (hb : Below w.heap.size w W) => beq_any A (some ⟨g, off, none⟩) 128 c9 128 c (cPage x (cCells l)) l W false (by simpa using he) HPL.out.symm HLN.out.symm h (HA.out.below hb).reads)
      clear hul he hy
      go_wp2_with (first
        | (go_at_call 47; refine HP.out.mono ?_; rintro e w4 ⟨A4, c4, rfl, _, _, r4, b4⟩; have R4 := Lib.hid r4; have B4 := Lib.hid b4; clear r4 b4)
        | (go_at_call 67; refine (HQ.out _ _ _ R4.out.reads (below_step B3.out B4.out)).mono ?_; rintro e w5 ⟨rfl, rfl⟩))
      go_ret3
      exact UnpEnd.no (below_step B3.out B4.out)
  · have HP := Lib.hid (cePack_no x A3 n3 c3 q3 w3 M1.out HF.out (by rw [M2.out]; exact hy))
    have hul : unpN l = (0, [], 11) := unpN_no HLN.out HG.out (fun h => hy (by have := h.1; rwa [HX.out] at this))
    rw [hul]
    clear hul hy
    go_wp2_with (go_at_call 47; refine HP.out.mono ?_; rintro e w4 ⟨rfl, b4⟩; have B4 := Lib.hid b4; clear b4)
    go_ret3
    exact UnpEnd.no (below_step B3.out B4.out)

theorem ceUnpack_any (A : Option Addr) (n c : Nat) (l : List UInt8) (w : World) (ht : Tab w) (h : Arg w A n c l) :
    Calls Tryd.prog 54 #[.slice A n c] w (UnpEnd (unpN l) w) := by
  by_cases hl : l.length = 128
  · obtain rfl : n = 128 := by rw [h.len, hl]
    by_cases hg : isTag l
    · exact ceUnpack_page A c l w ht h hg
    · exact ceUnpack_sum A c l w ht h hg
  · exact ceUnpack_len A n c l w h hl

end Go.Proofs.YthcjledpjlpfaaaDoor
end

section
namespace Go.Proofs.YthcjledpjlpfaaaDoor
open Go.RowKit
set_option linter.unusedVariables false

def upI (rs : List Rg) (x p : Int) (q : Bool) : Int := match regN rs x with
  | none => 2
  | some r => if r.down then 3 else if q && !hasB r p then 2 else 0
theorem upI_rd (rs : List Rg) (x p : Int) : upI rs x p true = rdE rs x p := by
  unfold upI rdE
  cases regN rs x with
  | none => rfl
  | some r => cases h : hasB r p <;> simp [h]
section
variable {w : World} {T : Tg} {A : Option Addr} {n c : Nat} {gs : List Gx}
set_option maxRecDepth 100000 in
set_option maxHeartbeats 1000000 in
theorem r6up_any (x p : Int) (q : Bool) (h : GA w T A n c gs) : Calls Tryd.prog 37 #[.slice A n c, .int .i64 x, .int .i64 p, .bool q] w fun e w' => e = .returned (.int .i64 (upI (rgs gs) x p q)) ∧ w = w' := by
  have hn := h.len
  unfold upI
  cases hr : regN (rgs gs) x with
  | none =>
    have h1 := regN_none hr
    rw [rgs_len, ← hn] at h1
    rcases h1 with h1 | h1
    · clear hr h hn
      go_enter Tryd.func37, Tryd.ntmps37
      go_wp2
      go_ret
      exact ⟨rfl, rfl⟩
    · by_cases h2 : x < 0
      · clear hr h hn
        go_enter Tryd.func37, Tryd.ntmps37
        go_wp2
        go_ret
        exact ⟨rfl, rfl⟩
      · clear hr h hn
        go_enter Tryd.func37, Tryd.ntmps37
        go_wp2
        go_ret
        exact ⟨rfl, rfl⟩
  | some r =>
    obtain ⟨k, g, rfl, hg, rfl, hk⟩ := regN_gs hr
    obtain ⟨b, off, rfl, c0, c1, c2, c3⟩ := h.at_ hg
    have i0 : ¬ (k : Int) < 0 := by omega
    have i1 : ¬ (n : Int) ≤ (k : Int) := by omega
    have i2 : (0 : Int) ≤ (k : Int) := by omega
    have i3 : (k : Int) < (n : Int) := by omega
    clear hr h hg hk hn
    dsimp only
    cases hd : g.r.down
    · rw [hd] at c3
      cases q
      · go_enter Tryd.func37, Tryd.ntmps37
        go_wp2
        go_ret
        exact ⟨rfl, rfl⟩
      · unfold hasB
        by_cases h1 : p < 0
        · have e1 : ¬ 0 ≤ p := by omega
          go_enter Tryd.func37, Tryd.ntmps37
          go_wp2
          go_ret
          exact ⟨by simp <;> omega, rfl⟩
        · have e1 : 0 ≤ p := by omega
          by_cases h2 : (g.r.size : Int) ≤ p
          · have e2 : ¬ p < (g.r.size : Int) := by omega
            go_enter Tryd.func37, Tryd.ntmps37
            go_wp2
            go_ret
            exact ⟨by simp <;> omega, rfl⟩
          · have e2 : p < (g.r.size : Int) := by omega
            go_enter Tryd.func37, Tryd.ntmps37
            go_wp2
            go_ret
            exact ⟨by simp <;> omega, rfl⟩
    · rw [hd] at c3
      go_enter Tryd.func37, Tryd.ntmps37
      go_wp2
      go_ret
      exact ⟨rfl, rfl⟩
end
end Go.Proofs.YthcjledpjlpfaaaDoor
end

section
namespace Go.Proofs.YthcjledpjlpfaaaDoor
open Go.RowKit
set_option linter.unusedVariables false

def cntL (l : Int) : Int := if l = 0 then 0 else if 0 < l then l - 1 else l
def cntE (l : Int) : Int := if l = 0 then 3 else 0
theorem cntR_parts (r : Rg) (h : r.down = false) : (cntR r).left = cntL r.left ∧ (cntR r).down = decide (r.left = 0) ∧ cntE r.left = if (cntR r).down then 3 else 0 := by
  unfold cntR cntL cntE
  split
  · simp_all
  · split <;> simp_all
set_option maxRecDepth 100000 in
set_option maxHeartbeats 1000000 in
theorem r6counts_any (pA lA : Option Addr) (pn pc ln lc : Nat) (left : Int) (w : World) (hl : -1 ≤ left) (hl2 : left ≤ 9223372036854775807) : Calls Tryd.prog 38 #[.agg #[.slice pA pn pc, .slice lA ln lc, .int .i64 left, .bool false]] w fun e w' =>
    e = .returned (.tuple #[.agg #[.slice pA pn pc, .slice lA ln lc, .int .i64 (cntL left), .bool (decide (left = 0))], .int .i64 (cntE left)]) ∧ Below w.heap.size w w' := by
  unfold cntL cntE
  by_cases h1 : left = 0
  · subst h1
    go_enter Tryd.func38, Tryd.ntmps38
    go_wp2
    refine ⟨rfl, .tuple #[.agg #[.slice pA pn pc, .slice lA ln lc, .int .i64 0, .bool true], .int .i64 3], ?_, rfl, ((Below.refl _ w).alloc (Nat.le_refl _) _).alloc (by simp) _⟩
    simp [results, Tryd.f38, go_sem]
  · by_cases h2 : 0 < left
    · go_enter Tryd.func38, Tryd.ntmps38
      go_wp2
      refine ⟨rfl, .tuple #[.agg #[.slice pA pn pc, .slice lA ln lc, .int .i64 (left - 1), .bool false], .int .i64 0], ?_, ?_, ((Below.refl _ w).alloc (Nat.le_refl _) _).alloc (by simp) _⟩
      · simp [results, Tryd.f38, go_sem]
      · simp
    · go_enter Tryd.func38, Tryd.ntmps38
      go_wp2
      refine ⟨rfl, .tuple #[.agg #[.slice pA pn pc, .slice lA ln lc, .int .i64 left, .bool false], .int .i64 0], ?_, ?_, ((Below.refl _ w).alloc (Nat.le_refl _) _).alloc (by simp) _⟩
      · simp [results, Tryd.f38, go_sem]
      · simp

end Go.Proofs.YthcjledpjlpfaaaDoor
end

section
namespace Go.Proofs.YthcjledpjlpfaaaDoor
open Go.RowKit
set_option linter.unusedVariables false

theorem gsV_idx (gs : List Gx) (m : Nat) : (gsV gs)[m]? = gs[m / 4]?.bind (fun g => g.cells[m % 4]?) := by
  rw [← gsV_at gs (m / 4) (m % 4) (Nat.mod_lt _ (by omega))]
  congr 1
  omega
theorem gcells_len (g : Gx) : g.cells.length = 4 := rfl
theorem own_set {w : World} {T : Tg} {base n c : Nat} {A : Option Addr} {gs : List Gx} {k : Nat} (g' : Gx) (h : w.ownsRow base 76 4 (.slice A n c) n (gsV gs)) (hk : k < gs.length) (hT : ∀ g, base ≤ g → T g = none) :
    ∃ g, A = some ⟨g, 0, none⟩ ∧ base ≤ g ∧ w.there g (k * 4) 4 ∧ SlT (w.setCells g (k * 4) g'.cells) T A n c (gsV (gs.set k g')) ∧ Below base w (w.setCells g (k * 4) g'.cells) := by
  have hln := h.1
  rw [gsV_len] at hln
  rcases h.2 with ⟨hv, hn⟩ | ⟨g, cap, cur, hv, hb, hg, hnc, hcm, hcs, hcur⟩
  · omega
  · injection hv with hA _ hc
    subst hA hc
    have hH : Has w g 76 cur := hg
    have hcz : gs.length * 4 ≤ cur.size := by rw [hcs]; have := Nat.mul_le_mul_right 4 hnc; omega
    have ht : w.there g (k * 4) 4 := fun j hj => by
      refine ⟨?_, hH.free _⟩
      rw [hH.cell]
      have : k * 4 + j < cur.size := by omega
      simp [this]
    refine ⟨g, rfl, hb, ht, ⟨fun hx => ⟨g, 0, rfl, fun m u hm => ?_⟩, fun _ a ha => by injection ha with ha; subst ha; exact hT g hb, hnc, hcm, fun h => by cases h⟩, ?_⟩
    · rw [Nat.zero_add]
      rw [gsV_idx, List.getElem?_set] at hm
      by_cases e : k = m / 4
      · rw [if_pos e, if_pos hk] at hm
        have hm4 : m % 4 < g'.cells.length := Nat.mod_lt _ (by omega)
        have := World.cell?_setCells_in g g'.cells (k * 4) w (fun j hj => (ht j hj).1) (m % 4) hm4
        rw [show k * 4 + m % 4 = m by omega] at this
        rw [this]
        simpa [List.getElem?_eq_getElem hm4] using hm
      · rw [if_neg e] at hm
        rw [World.cell?_setCells_out g g'.cells (k * 4) w ⟨g, m, none⟩ (fun _ _ => by rw [gcells_len]; show m < k * 4 ∨ k * 4 + 4 ≤ m; omega), hH.cell]
        rw [← gsV_idx, ← hcur, List.getElem?_take] at hm
        split at hm
        · simpa using hm
        · cases hm
    · obtain ⟨cs', h1, h2, h3, h4⟩ := Has.sets (w := w) g'.cells (k * 4) w cur hH
      obtain ⟨r1, r2, r3⟩ := setCells_rest g g'.cells (k * 4) w
      exact ⟨r1, r2, r3, Nat.le_of_eq (setCells_hsize g _ _ _).symm, fun x hx => h4 x (by omega)⟩
theorem info_G6 : (Tryd.prog.info? 76).map (fun i => (i.zero, i.size, i.bytes)) = some (some (.agg #[.slice none 0 0, .slice none 0 0, .int .i64 0, .bool false]), 4, 64) := by kernel_rfl
theorem set_next {w W w4 : World} {T : Tg} {v4 : Value} {n : Nat} {gs : List Gx} {k : Nat} (g' : Gx) (h7 : w4.ownsRow w.heap.size.succ 76 4 v4 (0 + n) ([] ++ gsV gs)) (h8 : W.grownBy w4 none) (hBW : Below w.heap.size w W) (hbox : Has W w.heap.size 76 g'.cells.toArray)
    (hT : ∀ g, w.heap.size ≤ g → T g = none) (hk : k < gs.length) : ∃ g4 c4, v4 = .slice (some ⟨g4, 0, none⟩) n c4 ∧ w4.cell? ⟨w.heap.size, 0, none⟩ = some (.slice g'.pA g'.r.size g'.pc) ∧ w4.cell? ⟨w.heap.size, 1, none⟩ = some (.slice g'.lA g'.r.loose.length g'.lc) ∧
      w4.cell? ⟨w.heap.size, 2, none⟩ = some (.int .i64 g'.r.left) ∧ w4.cell? ⟨w.heap.size, 3, none⟩ = some (.bool g'.r.down) ∧
      SlT (w4.setCells g4 (k * 4) g'.cells) T (some ⟨g4, 0, none⟩) n c4 (gsV (gs.set k g')) ∧ Below w.heap.size w (w4.setCells g4 (k * 4) g'.cells) ∧
      (Instr.storeAt 76 (.pointer (some ⟨g4, k * 4, none⟩)) (.agg #[.slice g'.pA g'.r.size g'.pc, .slice g'.lA g'.r.loose.length g'.lc, .int .i64 g'.r.left, .bool g'.r.down])).run Tryd.prog w4 = .ok () (w4.setCells g4 (k * 4) g'.cells) := by
  have hq : w4.ownsRow w.heap.size.succ 76 4 v4 n (gsV gs) := by simpa using h7
  obtain ⟨A4, c4, rfl⟩ := own_slw hq
  obtain ⟨g4, rfl, hb4, ht4, hs4, hbl4⟩ := own_set g' hq hk (fun g hg => hT g (by omega))
  have hbx := hbox.grown h8 (by intro e; cases e)
  have B4 := hBW.grown h8 hBW.size (fun k hk => by cases hk)
  exact ⟨g4, c4, rfl, hbx.cell 0, hbx.cell 1, hbx.cell 2, hbx.cell 3, hs4, B4.trans (hbl4.mono (Nat.le_succ _)), run_storeAt_mid (P := Tryd.prog) w4 g4 (k * 4) 76 g'.cells.toArray ht4 (by kernel_rfl) (by simp [Gx.cells, Value.oneCell'])⟩
theorem store_G6 (w : World) (u0 u1 u2 u3 : Value) (h : (#[u0, u1, u2, u3] : Array Value).all (·.oneCell') = true) :
    (Instr.storeAt 76 (.pointer (some ⟨w.heap.size, 0, none⟩)) (.agg #[u0, u1, u2, u3])).run Tryd.prog (w.alloc (.cells #[.slice none 0 0, .slice none 0 0, .int .i64 0, .bool false] 76)) = .ok () (w.alloc (.cells #[u0, u1, u2, u3] 76)) :=
  run_storeAt_new w 76 #[.slice none 0 0, .slice none 0 0, .int .i64 0, .bool false] #[u0, u1, u2, u3] (by kernel_rfl) rfl h
def GaEnd (T : Tg) (n : Nat) (gs : List Gx) (w : World) (e : Ending) (w' : World) : Prop := ∃ A' c', e = .returned (.slice A' n c') ∧ GA w' T A' n c' gs ∧ Below w.heap.size w w'
section
variable {w : World} {T : Tg} {A : Option Addr} {n c : Nat} {gs : List Gx}
theorem GA.reg (h : GA w T A n c gs) {k : Nat} {g : Gx} (hg : gs[k]? = some g) : Gok w T g := h.each g (List.mem_of_getElem? hg)
set_option maxRecDepth 100000 in
set_option maxHeartbeats 2000000 in
theorem r6with_any (k : Nat) (g' : Gx) (h : GA w T A n c gs) (hg' : Gok w T g') (hk : k < gs.length) (hn : gs.length ≤ 1000) (hT : ∀ g, w.heap.size ≤ g → T g = none) :
    Calls Tryd.prog 39 #[.slice A n c, .int .i64 (k : Int), .agg #[.slice g'.pA g'.r.size g'.pc, .slice g'.lA g'.r.loose.length g'.lc, .int .i64 g'.r.left, .bool g'.r.down]] w (GaEnd T n (gs.set k g') w) := by
  have hnl := h.len
  obtain ⟨W, hW⟩ : ∃ W, w.alloc (.cells #[.slice g'.pA g'.r.size g'.pc, .slice g'.lA g'.r.loose.length g'.lc, .int .i64 g'.r.left, .bool g'.r.down] 76) = W := ⟨_, rfl⟩
  have hBW : Below w.heap.size w W := hW ▸ (Below.refl _ w).alloc (Nat.le_refl _) _
  have hbox : Has W w.heap.size 76 #[.slice g'.pA g'.r.size g'.pc, .slice g'.lA g'.r.loose.length g'.lc, .int .i64 g'.r.left, .bool g'.r.down] := hW ▸ Has.made w 76 _
  have HBW := Lib.hid hBW
  have HBOX := Lib.hid hbox
  obtain ⟨i0, hi, hz0, hz1, hz2⟩ := info_parts info_G6
  have HR := Lib.hid (h.sl.reads.keep_ hBW)
  have HN := Lib.hid hnl
  have HSL := Lib.hid h.sl
  have HEACH := Lib.hid h.each
  have HG' := Lib.hid hg'
  have HT := Lib.hid hT
  have i1 : (k : Int) < (n : Int) := by omega
  have i2 : (0 : Int) ≤ (k : Int) := by omega
  have hWs : w.heap.size < W.heap.size := hbox.lt
  have HK := Lib.hid hk
  have hn2 : n ≤ 1000 := by omega
  clear h hg' hT hnl hk hn
  go_enter Tryd.func39, Tryd.ntmps39
  go_wp2_with (first
    | (at_builtin; refine wpList_append_src rfl _ _ 41 rfl w.heap.size.succ 76 i0 _ 4 64 Tryd.underlying41 hi hz0 hz1 hz2 rfl (by decide) _ 0 [] rfl (World.ownsRow_nil _ _ _ _) A n c (gsV gs) rfl (by rw [gsV_len, ← HN.out]) HSL.out.nil HSL.out.room HR.out (gsV_one gs) (by omega) (by unfold maxLen; omega) hWs ?_; intro v4 w4 h7 h8; obtain ⟨g4, c4, rfl, c0, c1, c2, c3, h3, h4, h5⟩ := set_next g' h7 h8 HBW.out HBOX.out HT.out HK.out; have S4 := Lib.hid h3; have B4 := Lib.hid h4; have HST := Lib.hid h5; clear h3 h4 h5 h7 h8)
    | (refine wpL_store rfl 76 (.tmp 14) (.tmp 13) rfl _ _ rfl rfl _ HST.out ?_))
  go_ret
  refine ⟨some ⟨g4, 0, none⟩, c4, rfl, ⟨by rw [List.length_set, ← HN.out], S4.out, ?_⟩, B4.out⟩
  · intro g hg
    rcases List.mem_or_eq_of_mem_set hg with hg | rfl
    · exact (HEACH.out g hg).below B4.out
    · exact HG'.out.below B4.out
def GrEnd (T : Tg) (rs : List Rg) (n : Nat) (w : World) (e : Ending) (w' : World) : Prop := ∃ A' c' gs', e = .returned (.slice A' n c') ∧ GA w' T A' n c' gs' ∧ rgs gs' = rs ∧ Below w.heap.size w w'
theorem rgs_set (gs : List Gx) (k : Nat) (g : Gx) : rgs (gs.set k g) = (rgs gs).set k g.r := by simp [rgs, List.map_set]
theorem GA.rg (h : GA w T A n c gs) {k : Nat} {g : Gx} (hg : gs[k]? = some g) : regN (rgs gs) (k : Int) = some g.r := by
  unfold regN
  rw [if_neg (by omega)]
  simp [rgs, hg]
end

end Go.Proofs.YthcjledpjlpfaaaDoor
end

section
namespace Go.Proofs.YthcjledpjlpfaaaDoor
open Go.RowKit
set_option linter.unusedVariables false

theorem Gok.page {w : World} {T : Tg} {g : Gx} (h : Gok w T g) {q : Nat} (hq : q < g.r.size) : ∃ b off, g.pA = some ⟨b, off, none⟩ ∧ w.cell? ⟨b, off + q, none⟩ = some (txtV ((g.r.syn (q : Int)).getD zeros)) := by
  obtain ⟨b, off, hA, hc⟩ := h.pg.reads (by simp [pagesL_len]; omega)
  exact ⟨b, off, hA, hc q _ (by rw [List.getElem?_map, pagesL_at _ hq]; rfl)⟩
theorem Gok.wr {w : World} {T : Tg} {g : Gx} (h : Gok w T g) {q : Nat} {x : Wr} (hq : g.r.loose[q]? = some x) : ∃ b off, g.lA = some ⟨b, off, none⟩ ∧ w.cell? ⟨b, off + q * 2, none⟩ = some (.int .i64 x.1) ∧ w.cell? ⟨b, off + q * 2 + 1, none⟩ = some (txtV x.2) := by
  have hl := (List.getElem?_eq_some_iff.1 hq).1
  obtain ⟨b, off, hA, hc⟩ := h.lo.reads (by rw [looseV_len]; omega)
  obtain ⟨h1, h2⟩ := looseV_at g.r.loose q x hq
  exact ⟨b, off, hA, hc _ _ h1, hc _ _ h2⟩
theorem up_not {rs : List Rg} {x p : Int} (h : rdE rs x p ≠ 0) : rdL rs x p = [] := by
  unfold rdE at h
  unfold rdL
  cases hr : regN rs x with
  | none => rfl
  | some r =>
    simp only [hr] at h ⊢
    split
    · rfl
    · split
      · simp_all
      · rfl
theorem up_yes {rs : List Rg} {x p : Int} (h : rdE rs x p = 0) : ∃ r, regN rs x = some r ∧ r.down = false ∧ 0 ≤ p ∧ p < r.size ∧ rdL rs x p = rdP r p := by
  unfold rdE at h
  unfold rdL
  cases hr : regN rs x with
  | none => simp [hr] at h
  | some r =>
    simp only [hr] at h ⊢
    cases hd : r.down
    · cases hh : hasB r p
      · simp [hd, hh] at h
      · unfold hasB at hh
        simp at hh
        exact ⟨r, rfl, hd, hh.1, hh.2, by simp⟩
    · simp [hd] at h
section
variable {w : World} {T : Tg} {A : Option Addr} {n c : Nat} {gs : List Gx}
set_option maxRecDepth 100000 in
set_option maxHeartbeats 2000000 in
theorem r6Read_any (x p : Int) (h : GA w T A n c gs) (hm : ∀ r ∈ rgs gs, r.loose.length ≤ 1000) : Calls Tryd.prog 43 #[.slice A n c, .int .i64 x, .int .i64 p] w fun e w' => e = .returned (.tuple #[txtV (rdL (rgs gs) x p), .int .i64 (rdE (rgs gs) x p)]) ∧ Below w.heap.size w w' := by
  have hup := r6up_any x p true h
  rw [upI_rd] at hup
  by_cases he : rdE (rgs gs) x p = 0
  · rw [he] at hup ⊢
    obtain ⟨r, hr, hd, hp0, hp1, hrd⟩ := up_yes he
    rw [hrd]
    obtain ⟨k, g, rfl, hg, rfl, hk⟩ := regN_gs hr
    obtain ⟨q, rfl⟩ : ∃ q : Nat, p = (q : Int) := ⟨p.toNat, by omega⟩
    have hlm := hm g.r (List.mem_map.2 ⟨g, List.mem_of_getElem? hg, rfl⟩)
    have hgo := h.reg hg
    have hlen := h.len
    obtain ⟨b, off, rfl, c0, c1, c2, c3⟩ := h.at_ hg
    obtain ⟨r, pA, pc, lA, lc⟩ := g
    dsimp only at *
    rw [hd] at c3
    obtain ⟨W, hW⟩ : ∃ W, w.alloc (.cells #[.slice pA r.size pc, .slice lA r.loose.length lc, .int .i64 r.left, .bool false] 76) = W := ⟨_, rfl⟩
    have hBW : Below w.heap.size w W := hW ▸ (Below.refl _ w).alloc (Nat.le_refl _) _
    have hbox : Has W w.heap.size 76 #[.slice pA r.size pc, .slice lA r.loose.length lc, .int .i64 r.left, .bool false] := hW ▸ Has.made w 76 _
    have hgoW := hgo.below hBW
    have b0 := hbox.cell 0
    have b1 := hbox.cell 1
    simp only [List.getElem?_toArray, List.getElem?_cons_succ, List.getElem?_cons_zero] at b0 b1
    obtain ⟨pb, po, hpA, cp⟩ := hgoW.page (q := q) (show q < r.size by omega)
    have HGW := Lib.hid hgoW
    obtain ⟨ln, hln⟩ : ∃ ln, r.loose.length = ln := ⟨_, rfl⟩
    rw [hln] at b1 c1 hW hlm
    have HLN := Lib.hid hln
    dsimp only at hpA cp
    subst hpA
    have HBW := Lib.hid hBW
    have HUP := Lib.hid hup
    have i2 : (0 : Int) ≤ (k : Int) := by omega
    have i3 : (k : Int) < (n : Int) := by omega
    have i4 : (0 : Int) ≤ (q : Int) := by omega
    clear hup h he hm hr hrd hd hg hk hgo hgoW hbox hln hlen hBW hp0
    have HST := Lib.hid (hW ▸ store_G6 w (.slice (some ⟨pb, po, none⟩) r.size pc) (.slice lA ln lc) (.int .i64 r.left) (.bool false) (by simp [Value.oneCell']))
    clear hW
    go_enter Tryd.func43, Tryd.ntmps43
    go_wp2_with (first
      | (go_at_call 37; (with_reducible refine HUP.out.mono ?_); rintro e w2 ⟨rfl, rfl⟩)
      | (refine wpL_store rfl 76 (.tmp 9) (.tmp 21) rfl _ _ rfl rfl _ HST.out ?_))
    go_loop [10] (fun i => ∃ (z : Int) (j : Nat), i = .int .i64 z ∧ z + 1 = j ∧ j ≤ ln ∧ lastFrom 0 r.loose (q : Int) = lastFrom 0 (r.loose.take j) (q : Int)) (fun i => (intOf i + 1).toNat)
    case atStart => exact ⟨_, ln, rfl, by omega, Nat.le_refl _, by rw [List.take_of_length_le (Nat.le_of_eq HLN.out)]⟩
    case round =>
      obtain ⟨z, j, rfl, hz, hj, hlast⟩ := hrel
      have HLA := Lib.hid hlast
      clear hlast
      by_cases h0 : z < 0
      · obtain rfl : j = 0 := by omega
        have HR : Hid (rdP r (q : Int) = (r.syn (q : Int)).getD zeros) := Lib.hid (rdP_none (by rw [HLA.out]; rfl))
        go_wp2
        go_ret2
        exact ⟨by rw [HR.out] <;> rfl, HBW.out⟩
      · obtain ⟨m, rfl⟩ : ∃ m : Nat, z = (m : Int) := ⟨z.toNat, by omega⟩
        obtain rfl : j = m + 1 := by omega
        have hml : m < r.loose.length := by have := HLN.out; omega
        obtain ⟨y, hy⟩ : ∃ y, r.loose[m]? = some y := ⟨_, List.getElem?_eq_getElem hml⟩
        obtain ⟨lb, lo, hlA, d0, d1⟩ := HGW.out.wr hy
        dsimp only at hlA
        subst hlA
        have j0 : (0 : Int) ≤ (m : Int) := by omega
        have j1 : (m : Int) < (ln : Int) := by omega
        have HT : Hid (r.loose.take (m + 1) = r.loose.take m ++ [y]) := Lib.hid (by rw [List.take_add_one, hy]; rfl)
        have HY := Lib.hid hy
        clear hml hy hz
        by_cases hyp : y.1 = (q : Int)
        · have HR : Hid (rdP r (q : Int) = y.2) := Lib.hid (rdP_some (j := m) (by rw [HLA.out, HT.out, lastFrom_snoc, if_pos hyp.symm, List.length_take]; congr 1; have := HLN.out; omega) HY.out)
          have e1 : (y.1 == (q : Int)) = true := by simpa using hyp
          clear hyp
          go_wp2
          go_ret2
          exact ⟨by rw [HR.out] <;> rfl, HBW.out⟩
        · have e1 : (y.1 == (q : Int)) = false := by simpa using hyp
          have HX : Hid (lastFrom 0 r.loose (q : Int) = lastFrom 0 (r.loose.take m) (q : Int)) := Lib.hid (by rw [HLA.out, HT.out, lastFrom_snoc, if_neg (fun e => hyp e.symm)])
          clear hyp
          go_wp2
          go_round
          case rel => exact ⟨_, m, rfl, by omega, by omega, HX.out⟩
          case measure => simp [intOf]
  · rw [up_not he]
    obtain ⟨er, her⟩ : ∃ er, rdE (rgs gs) x p = er := ⟨_, rfl⟩
    rw [her] at hup he ⊢
    have HUP := Lib.hid hup
    have e1 : (er == 0) = false := by simpa using he
    clear hup h he hm her
    go_enter Tryd.func43, Tryd.ntmps43
    go_wp2_with (go_at_call 37; (with_reducible refine HUP.out.mono ?_); rintro e w2 ⟨rfl, rfl⟩)
    go_ret2
    exact ⟨rfl, Below.refl _ _⟩
end

end Go.Proofs.YthcjledpjlpfaaaDoor
end
