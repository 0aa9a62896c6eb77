import Derived.Test.YtpikcodnonodlaaDoorJ03
import Derived.Test.YtpikcodnonodlaaDoorJ02
import Derived.OwnWalk
/- Of a claim's texts, joined: Cee. No statement but in the last. -/
namespace Go.Proofs.YtpikcodnonodlaaDoor
open Go.RowKit
set_option linter.unusedVariables false

theorem Arg.of_row {w : World} {lo n c : Nat} {A : Option Addr} {l : List UInt8} (h : Row w 5 lo A (l.map byteV)) (hn : n = l.length) (h0 : 0 < n) (hc : n ≤ c) (hm : c ≤ maxLen) : Arg w A n c l :=
  ⟨hn, h.reads, fun _ a ha => by
    obtain ⟨g, off, cs, hA, _, hg, _⟩ := h (by rw [List.length_map]; omega)
    rw [ha] at hA
    injection hA with hA
    subst hA
    exact hg.lt, hc, hm, fun hA => absurd hA (h.some_ (by rw [List.length_map]; omega))⟩
theorem beq_any (A B : Option Addr) (n c m d : Nat) (l k : List UInt8) (w : World) (v : Bool) (hv : (l == k) = v) (hn : n = l.length) (hm : m = k.length) (h : Reads w A (l.map byteV)) (h' : Reads w B (k.map byteV)) :
    Calls Tryd.prog 30 #[.slice A n c, .slice B m d] w fun e w' => e = .returned (.bool v) ∧ w = w' := by
  have h1 := run_string_of (P := Tryd.prog) w 26 9 5 Tryd.underlying26 Tryd.underlying5 Tryd.underlying9 (cap := c) hn h
  have h2 := run_string_of (P := Tryd.prog) w 26 9 5 Tryd.underlying26 Tryd.underlying5 Tryd.underlying9 (cap := d) hm h'
  clear h h' hn hm
  go_enter Tryd.func30, Tryd.ntmps30
  go_wp2
  go_ret
  exact ⟨rfl, rfl⟩

def UnpEnd (r : UInt8 × List (List UInt8) × Int) (w : World) (e : Ending) (w' : World) : Prop :=
  ∃ A n c q, e = .returned (.tuple #[.int .u8 (r.1.toNat : Int), .slice A n c, .int .i64 r.2.2]) ∧ CellsA w' A n c q ∧ lq q = r.2.1 ∧ Below w.heap.size w w'
theorem UnpEnd.no {w w' : World} {er : Int} (h : Below w.heap.size w w') : UnpEnd (0, [], er) w (.returned (.tuple #[.int .u8 0, .slice none 0 0, .int .i64 er])) w' := ⟨none, 0, 0, [], rfl, CellsA.none_ _, rfl, h⟩
theorem cells_few {b : List UInt8} {q : List Hd} (hb : b.length = 128) (h : lq q = cCells b) : Few q := by
  have h1 : q.length ≤ 122 := by
    rw [← lq_len, h]
    unfold cCells
    refine Nat.le_trans (cCut_len _ _ _) ?_
    unfold cSlotsOf
    rw [List.length_take, List.length_drop, hb]
    omega
  refine ⟨by omega, fun x hx => ?_⟩
  have hm : x.l ∈ cCells b := by rw [← h]; exact List.mem_map_of_mem hx
  have hall : ∀ (ss : List UInt8) (e : Nat), ∀ y ∈ cCut b ss e, y.length ≤ 128 := by
    intro ss
    induction ss with
    | nil => intro e y hy; simp [cCut] at hy
    | cons s ss ih =>
      intro e y hy
      simp only [cCut] at hy
      split at hy
      · cases hy
      · rcases List.mem_cons.1 hy with rfl | hy
        · rw [List.length_take, List.length_drop]
          omega
        · exact ih _ _ hy
  have := hall _ _ _ hm
  omega

theorem ceUnpack_len (A : Option Addr) (n c : Nat) (l : List UInt8) (w : World) (h : Arg w A n c l) (hl : l.length ≠ 128) :
    Calls Tryd.prog 28 #[.slice A n c] w (UnpEnd (unpN l) w) := by
  have hu : unpN l = (0, [], 1) := by unfold unpN; rw [if_pos hl]
  have hne : ((n : Int) != 128) = true := by have := h.len; simp; omega
  rw [hu]
  go_enter Tryd.func28, Tryd.ntmps28
  go_wp2
  go_ret3
  exact UnpEnd.no (Below.refl _ _)
theorem ceUnpack_sum (A : Option Addr) (c : Nat) (l : List UInt8) (w : World) (ht : Tab w) (h : Arg w A 128 c l) (hg : ¬ isTag l) :
    Calls Tryd.prog 28 #[.slice A 128 c] w (UnpEnd (unpN l) w) := by
  have hu : unpN l = (0, [], 12) := by unfold unpN; rw [if_neg (by have := h.len; omega), if_pos hg]
  have HO := Lib.hid (open_no l w A 128 c ht h.len h.room (by have := h.len; omega) hg h.reads)
  rw [hu]
  clear ht h hg hu
  go_enter Tryd.func28, Tryd.ntmps28
  go_wp2_with (go_at_call 47; refine HO.out.mono ?_; rintro e w1 ⟨rfl, h1⟩; have B1 := Lib.hid h1; clear h1)
  go_ret3
  exact UnpEnd.no B1.out

set_option maxRecDepth 100000 in
set_option maxHeartbeats 4000000 in
theorem ceUnpack_page (A : Option Addr) (c : Nat) (l : List UInt8) (w : World) (ht : Tab w) (h : Arg w A 128 c l) (hg : isTag l) :
    Calls Tryd.prog 28 #[.slice A 128 c] w (UnpEnd (unpN l) w) := by
  have hlen := h.len
  have HLN : Hid (l.length = 128) := Lib.hid hlen.symm
  have HO := Lib.hid (cOpen_any A 128 c l w ht hlen h.room (by omega) h.reads)
  have HG := Lib.hid hg
  have HT := Lib.hid ht
  have HA := Lib.hid h
  have hc := h.room
  have hcm := h.most
  unfold maxLen at hcm
  obtain ⟨g, off, rfl, hcell⟩ := h.reads (by simp; omega)
  obtain ⟨x, hx⟩ : ∃ x, l[4]? = some x := ⟨_, List.getElem?_eq_getElem (by omega)⟩
  have h4 : ∀ W, Below w.heap.size w W → W.cell? ⟨g, off + 4, none⟩ = some (.int .u8 (x.toNat : Int)) := fun W hb => by
    have := hcell 4 (byteV x) (by simp [hx])
    exact (hb.cell (p := ⟨g, off + 4, none⟩) (World.block_lt_of_cell? w _ this)).trans this
  have HC4 := Lib.hid h4
  have HX : Hid (cKind l = x) := Lib.hid (by unfold cKind; rw [hx]; rfl)
  have HCL := Lib.hid (fun W (hb : Below w.heap.size w W) => show Calls Tryd.prog 49 #[.slice (some ⟨g, off, none⟩) 128 c] W (Fresh W.heap.size l W) by
    have := clone_any (some ⟨g, off, none⟩) c l W (by omega) (h.below hb).reads
    rw [← hlen] at this
    exact this)
  clear hcell h hx h4 hlen ht hg
  go_enter Tryd.func28, Tryd.ntmps28
  go_wp2_with (go_at_call 47; refine HO.out.mono ?_; rintro e w1 hh; rcases hh with ⟨_, A1, c1, rfl, _, h2⟩ | ⟨hno, _⟩; rotate_left; (exact absurd HG.out hno); have B1 := Lib.hid h2; clear h2)
  have BQ := B1.out.drew
  have hS := HC4.out _ BQ
  have hmx : Tryd.prog.follows .mixedOrders = true := by kernel_rfl
  rename_i K hK
  refine wp_held (fun w' : World => w'.cell? ⟨g, off + 4, none⟩ = some (.int .u8 (x.toNat : Int))) K hmx ?_ (fun _ _ h => h)
  refine wpAnyH_take (i := 0) (v := .slice (some ⟨g, off, none⟩) 128 c) rfl (by kernel_rfl) (by kernel_rfl) (by kernel_rfl) (fun _ _ _ h => h) (Or.inl ⟨by rfl, ?_⟩) hS ?_
  · rintro w6 s1
    go_simp
  simp only [Act.put, List.setIfInBounds_toArray, List.set_cons_zero, List.set_cons_succ, List.getElem_toArray, List.getElem_cons_zero]
  refine wpAnyH_take (i := 1) (v := .pointer (some ⟨g, off + 4, none⟩)) rfl (by kernel_rfl) (by kernel_rfl) (by kernel_rfl) (fun _ _ _ h => h) (Or.inl ⟨by rfl, ?_⟩) hS ?_
  · rintro w6 s1
    go_simp
  simp only [Act.put, List.setIfInBounds_toArray, List.set_cons_zero, List.set_cons_succ, List.getElem_toArray, List.getElem_cons_zero, List.getElem_cons_succ]
  refine wpAnyH_take (i := 2) (v := .int .u8 (x.toNat : Int)) rfl (by kernel_rfl) (by kernel_rfl) (by kernel_rfl) (fun _ _ _ h => h) (Or.inl ⟨by rfl, ?_⟩) hS ?_
  · rintro w6 s1
    go_simp
  simp only [Act.put, List.setIfInBounds_toArray, List.set_cons_zero, List.set_cons_succ, List.getElem_toArray, List.getElem_cons_zero, List.getElem_cons_succ]
  refine wpAnyH_take (i := 3) (v := .slice (some ⟨g, off, none⟩) 128 c) rfl (by kernel_rfl) (by kernel_rfl) (by kernel_rfl) (fun _ _ _ h => h) (Or.inl ⟨by rfl, ?_⟩) hS ?_
  · rintro w6 s1
    go_simp
  simp only [Act.put, List.setIfInBounds_toArray, List.set_cons_zero, List.set_cons_succ, List.getElem_toArray, List.getElem_cons_zero, List.getElem_cons_succ]
  refine wpAnyH_ready (rs := [4]) (by kernel_rfl) (by simp) ?_
  refine AllReadyH.cons rfl (fun K5 hK5 => ?_) AllReadyH.nil
  go_simp
  go_at_call 49
  (with_reducible refine (HCL.out _ BQ).mono ?_)
  rintro e w2 ⟨A2, c2, rfl, k1, k2, k3, k4⟩
  have hA2 := Arg.of_row k3 rfl (by rw [HLN.out]; decide) k1 k2
  rw [HLN.out] at hA2
  have HCUT : Calls Tryd.prog 48 #[.slice A2 l.length c2] w2 (CutEnd w2 (cCells l)) := by rw [HLN.out]; exact ceCut_any A2 c2 l w2 hA2
  have hS2 : (fun w' : World => w'.cell? ⟨g, off + 4, none⟩ = some (.int .u8 (x.toNat : Int))) w2 := HC4.out w2 (below_step BQ k4)
  refine hK5.out _ _ hS2 (fun _ => ?_)
  clear hK5 K5
  refine wpAnyH_ready (rs := [5]) (by kernel_rfl) (by simp) ?_
  refine AllReadyH.cons rfl (fun K5 hK5 => ?_) AllReadyH.nil
  go_simp
  go_at_call 48
  refine HCUT.mono ?_
  rintro e w3 ⟨A3, n3, c3, q3, rfl, m1, m2, m3⟩
  have hS3 : (fun w' : World => w'.cell? ⟨g, off + 4, none⟩ = some (.int .u8 (x.toNat : Int))) w3 := HC4.out w3 (below_step BQ (below_step k4 m3))
  refine hK5.out _ _ hS3 (fun _ => ?_)
  clear hK5 K5
  refine wpAnyH_take (i := 6) (v := .int .u8 (x.toNat : Int)) rfl (by kernel_rfl) (by kernel_rfl) (by kernel_rfl) (fun _ _ _ h => h) (Or.inl ⟨by rfl, ?_⟩) hS3 ?_
  · rintro w6 s1
    go_simp
  simp only [Act.put, List.setIfInBounds_toArray, List.set_cons_zero, List.set_cons_succ, List.getElem_toArray, List.getElem_cons_zero, List.getElem_cons_succ]
  refine wpAnyH_take (i := 7) (v := .slice A3 n3 c3) rfl (by kernel_rfl) (by kernel_rfl) (by kernel_rfl) (fun _ _ _ h => h) (Or.inl ⟨by rfl, ?_⟩) hS3 ?_
  · rintro w6 s1
    go_simp
  simp only [Act.put, List.setIfInBounds_toArray, List.set_cons_zero, List.set_cons_succ, List.getElem_toArray, List.getElem_cons_zero, List.getElem_cons_succ]
  refine wpAnyH_done (by kernel_rfl) ?_ _
  refine hK _ _ ?_
  have M1 := Lib.hid m1
  have M2 := Lib.hid m2
  have B3 := Lib.hid (below_step BQ (below_step k4 m3))
  have HF := Lib.hid (cells_few HLN.out m2)
  clear m1 m2 k4 m3 k1 k2 k3 HCUT hA2 hS hS2 hS3 BQ
  by_cases hy : cFits x (cCells l)
  · have HP := Lib.hid (cePack_yes x A3 n3 c3 q3 w3 (HT.out.below B3.out) M1.out HF.out (by rw [M2.out]; exact hy))
    rw [M2.out] at HP
    have HPL := Lib.hid (cPage_len x (cCells l) hy.2)
    by_cases he : cPage x (cCells l) = l
    · have hul : unpN l = (x, cCells l, 0) := by rw [unpN_yes HLN.out HG.out ⟨by rw [HX.out]; exact hy, by rw [HX.out]; exact he⟩, HX.out]
      rw [hul]
      have HQ := Lib.hid (fun A c9 W (h : Reads W A ((cPage x (cCells l)).map byteV)) (hb : Below w.heap.size w W) => beq_any A (some ⟨g, off, none⟩) 128 c9 128 c (cPage x (cCells l)) l W true (by rw [he]; simp) HPL.out.symm HLN.out.symm h (HA.out.below hb).reads)
      clear hul he hy
      go_wp2_with (first
        | (go_at_call 23; refine HP.out.mono ?_; rintro e w4 ⟨A4, c4, rfl, _, _, r4, b4⟩; have R4 := Lib.hid r4; have B4 := Lib.hid b4; clear r4 b4)
        | (go_at_call 30; refine (HQ.out _ _ _ R4.out.reads (below_step B3.out B4.out)).mono ?_; rintro e w5 ⟨rfl, rfl⟩))
      go_ret3
      exact ⟨A3, n3, c3, q3, rfl, M1.out.below B4.out, M2.out, below_step B3.out B4.out⟩
    · have hul : unpN l = (0, [], 11) := unpN_no HLN.out HG.out (fun h => he (by have := h.2; rwa [HX.out] at this))
      rw [hul]
      have HQ := Lib.hid (fun A c9 W (h : Reads W A ((cPage x (cCells l)).map byteV)) (hb : Below w.heap.size w W) => beq_any A (some ⟨g, off, none⟩) 128 c9 128 c (cPage x (cCells l)) l W false (by simpa using he) HPL.out.symm HLN.out.symm h (HA.out.below hb).reads)
      clear hul he hy
      go_wp2_with (first
        | (go_at_call 23; refine HP.out.mono ?_; rintro e w4 ⟨A4, c4, rfl, _, _, r4, b4⟩; have R4 := Lib.hid r4; have B4 := Lib.hid b4; clear r4 b4)
        | (go_at_call 30; refine (HQ.out _ _ _ R4.out.reads (below_step B3.out B4.out)).mono ?_; rintro e w5 ⟨rfl, rfl⟩))
      go_ret3
      exact UnpEnd.no (below_step B3.out B4.out)
  · have HP := Lib.hid (cePack_no x A3 n3 c3 q3 w3 M1.out HF.out (by rw [M2.out]; exact hy))
    have hul : unpN l = (0, [], 11) := unpN_no HLN.out HG.out (fun h => hy (by have := h.1; rwa [HX.out] at this))
    rw [hul]
    clear hul hy
    go_wp2_with (go_at_call 23; refine HP.out.mono ?_; rintro e w4 ⟨rfl, b4⟩; have B4 := Lib.hid b4; clear b4)
    go_ret3
    exact UnpEnd.no (below_step B3.out B4.out)

theorem ceUnpack_any (A : Option Addr) (n c : Nat) (l : List UInt8) (w : World) (ht : Tab w) (h : Arg w A n c l) :
    Calls Tryd.prog 28 #[.slice A n c] w (UnpEnd (unpN l) w) := by
  by_cases hl : l.length = 128
  · obtain rfl : n = 128 := by rw [h.len, hl]
    by_cases hg : isTag l
    · exact ceUnpack_page A c l w ht h hg
    · exact ceUnpack_sum A c l w ht h hg
  · exact ceUnpack_len A n c l w h hl

end Go.Proofs.YtpikcodnonodlaaDoor
