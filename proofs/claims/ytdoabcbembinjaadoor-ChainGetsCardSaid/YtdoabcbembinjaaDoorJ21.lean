import Derived.Test.YtdoabcbembinjaaDoorJ17
/- Of a claim's texts, joined: Chbk ChBack. No statement but in the last. -/
section
namespace Go.Proofs.YtdoabcbembinjaaDoor
open Go.RowKit
set_option linter.unusedVariables false

def markT (T : Tg) (d g : Nat) : Tg := fun x => if x = g then some (d + 1, 0) else T x
theorem markT_old {T : Tg} {d g x : Nat} {t : Nat × Nat} (hg : T g = none) (h : T x = some t) : markT T d g x = some t := by
  unfold markT
  rw [if_neg (fun e => by rw [e, hg] at h; cases h)]
  exact h
theorem Dk.mark {w : World} {T : Tg} {d D A g : Nat} {rs : List Rg} (h : Dk w T d D A rs) (hg : T g = none) : Dk w (markT T d g) d D A rs :=
  ⟨h.hd, markT_old hg h.td, markT_old hg h.ta, h.blk, fun i r hr => by
    obtain ⟨m1, m2, v, a⟩ := h.at_ i r hr
    exact ⟨m1, m2, v, a.c0, a.c1, a.c2, a.c3, a.c4, a.c5, markT_old hg a.ta, markT_old hg a.t1, markT_old hg a.t2, fun g' hg' => markT_old hg (a.t3 g' hg'), a.p1, a.p2, a.row, a.ok⟩⟩
theorem Dz.touch {w0 w w' : World} {T : Tg} {d D A N g : Nat} {rs : List Rg} (h : Dz w0 w T d D A N rs) (hg : T g = none) (hlt : g < w.heap.size) (h0 : w0.heap.size ≤ g) (hw : w.grownBy w' (some g)) : Dz w0 w' (markT T d g) d D A N rs := by
  have ht : Tn (markT T d g) (d + 1) w (markT T d g) w' := ⟨hw.os, hw.tape, hw.output, hw.size, fun x hx hk => hw.block x hx (fun e => by
    injection e with e
    subst e
    exact hk 0 (by unfold markT; rw [if_pos rfl])), fun _ _ => rfl, fun x t hx hm => by
    unfold markT at hm
    rw [if_neg (by omega)] at hm
    exact absurd (h.lo x t hm).2 (by omega)⟩
  refine ⟨(h.dk.mark hg).other ht (by omega), fun x t hm => ?_, h.bel.grown hw h.bel.size (fun j e => by injection e with e; omega), h.few⟩
  unfold markT at hm
  split at hm
  · rename_i e
    subst e
    exact ⟨h0, Nat.lt_of_lt_of_le hlt hw.size⟩
  · exact ⟨(h.lo x t hm).1, Nat.lt_of_lt_of_le (h.lo x t hm).2 hw.size⟩
theorem getC_first {rd : Int → List UInt8 × Int} {z : Nat} {p : Int} {b : List UInt8} (hz : lgB z = true) (hr : rd p = (b, 0)) (hu : (unpN b).2.2 = 12) : (getC rd z p).2.2 = 12 := by
  unfold getC
  have h0 := (lg_need z).1 hz
  rw [if_neg h0]
  obtain ⟨f, hf⟩ : ∃ f, needN z = f + 1 := ⟨needN z - 1, by omega⟩
  rw [hf, getF_unp (kd := (unpN b).1) (cs := (unpN b).2.1) (er := 12) hr (by rw [← hu]) (by decide)]
def PgH (w : World) (T : Tg) (B : Nat) (q : List Hd) : Prop := ∀ x ∈ q, ∃ g off cs, x.a = some ⟨g, off, none⟩ ∧ B ≤ g ∧ Bk w T g 5 cs ∧ ∀ j u, (x.l.map byteV)[j]? = some u → cs[off + j]? = some u
theorem PgH.tn {w w' : World} {T T' : Tg} {d B : Nat} {q : List Hd} (h : PgH w T B q) (k : Tn T d w T' w') : PgH w' T' B q := fun x hx => by
  obtain ⟨g, off, cs, h1, h2, h3, h4⟩ := h x hx
  exact ⟨g, off, cs, h1, h2, h3.tn k, h4⟩
theorem PgH.below {w w' : World} {T : Tg} {B : Nat} {q : List Hd} (h : PgH w T B q) (hb : Below w.heap.size w w') : PgH w' T B q := fun x hx => by
  obtain ⟨g, off, cs, h1, h2, h3, h4⟩ := h x hx
  exact ⟨g, off, cs, h1, h2, h3.below hb, h4⟩
theorem PgH.of_put {w0 w : World} {T : Tg} {q : List Hd} (hr : ∀ x ∈ q, RowH w0.heap.size w x) (hT : ∀ g, w0.heap.size ≤ g → T g = none) : PgH w T w0.heap.size q := fun x hx => by
  have h := hr x hx
  obtain ⟨g, off, cs, e, hg, hh, hc⟩ := h.row (by rw [List.length_map, ← h.len]; exact h.pos)
  exact ⟨g, off, cs, e, hg, ⟨hh, hT g hg⟩, hc⟩
theorem xor_one9 (x : UInt8) : bits .xor .u8 (x.toNat : Int) 1 = ((x ^^^ 1).toNat : Int) := by
  have h := u8_xor_nat x.toNat 1 x.toNat_lt (by decide)
  rw [UInt8.toNat_xor]
  exact h
theorem row_turn9 {w : World} {lo c : Nat} {A : Option Addr} {l : List UInt8} (h : Row w 5 lo A (l.map byteV)) (hn : l.length = 128) (h1 : 128 ≤ c) (h2 : c ≤ maxLen) (at_ : Nat) (hat : at_ < l.length) :
    ∃ g off, A = some ⟨g, off, none⟩ ∧ lo ≤ g ∧ w.cell? ⟨g, off + at_, none⟩ = some (.int .u8 ((l[at_]).toNat : Int)) ∧ w.frozen? ⟨g, off + at_, none⟩ = false ∧
      Arg (w.setCell ⟨g, off + at_, none⟩ (.int .u8 ((l[at_] ^^^ 1).toNat : Int))) (some ⟨g, off, none⟩) 128 c (l.set at_ (l[at_] ^^^ 1)) := by
  obtain ⟨g, off, cs, rfl, hlo, hH, hcs⟩ := h (by rw [List.length_map]; omega)
  have hx := hcs at_ (byteV l[at_]) (by rw [List.getElem?_map, List.getElem?_eq_getElem hat]; rfl)
  refine ⟨g, off, rfl, hlo, by rw [hH.cell]; exact hx, hH.free _, ?_⟩
  have hS := hH.store (off + at_) (.int .u8 ((l[at_] ^^^ 1).toNat : Int))
  refine ⟨by rw [List.length_set]; exact hn.symm, fun _ => ⟨g, off, rfl, fun j u hj => ?_⟩, fun _ a ha => ?_, h1, h2, fun h => by cases h⟩
  · rw [hS.cell]
    rw [List.getElem?_map] at hj
    by_cases hja : j = at_
    · subst hja
      rw [List.getElem?_set_self hat] at hj
      have hlt : off + j < cs.size := (Array.getElem?_eq_some_iff.1 hx).1
      rw [Array.getElem?_setIfInBounds_self_of_lt hlt]
      exact hj
    · rw [List.getElem?_set_ne (fun e => hja e.symm), ← List.getElem?_map] at hj
      rw [Array.getElem?_setIfInBounds_ne (by omega)]
      exact hcs j u hj
  · injection ha with ha
    subst ha
    simpa [World.setCell] using hH.lt
def HdH (w : World) (T : Tg) (A : Option Addr) (q : List Hd) : Prop := 0 < q.length → ∃ g off cs, A = some ⟨g, off, none⟩ ∧ Bk w T g 31 cs ∧ ∀ j u, (q.map Hd.v)[j]? = some u → cs[off + j]? = some u
theorem HdH.tn {w w' : World} {T T' : Tg} {d : Nat} {A : Option Addr} {q : List Hd} (h : HdH w T A q) (k : Tn T d w T' w') : HdH w' T' A q := fun hx => by
  obtain ⟨g, off, cs, h1, h3, h4⟩ := h hx
  exact ⟨g, off, cs, h1, h3.tn k, h4⟩
theorem HdH.below {w w' : World} {T : Tg} {A : Option Addr} {q : List Hd} (h : HdH w T A q) (hb : Below w.heap.size w w') : HdH w' T A q := fun hx => by
  obtain ⟨g, off, cs, h1, h3, h4⟩ := h hx
  exact ⟨g, off, cs, h1, h3.below hb, h4⟩
theorem HdH.of_put {w0 w : World} {T : Tg} {A : Option Addr} {q : List Hd} (hr : Row w 31 w0.heap.size A (q.map Hd.v)) (hT : ∀ g, w0.heap.size ≤ g → T g = none) : HdH w T A q := fun hx => by
  obtain ⟨g, off, cs, e, hg, hh, hc⟩ := hr (by rw [List.length_map]; exact hx)
  exact ⟨g, off, cs, e, ⟨hh, hT g hg⟩, hc⟩
theorem turn9 {W0 w : World} {T : Tg} {D A N B k at_ n c3 : Nat} {rs : List Rg} {q : List Hd} {A3 : Option Addr} {ws : List Wr} {px : Int} (hZ : Dz W0 w T 0 D A N rs) (hN : N ≤ 1000) (hr : rs[0]? = some (lz 1000 ws)) (hH : PgH w T B q) (hP : PgT w T A3 n c3 q) (hD : HdH w T A3 q) (hB : W0.heap.size ≤ B) (hk : k < q.length) (ha : at_ < 128) (h0 : 0 ≤ px) (h1 : px < 1000) :
    ∃ g off gA oA b w', (q[k]).a = some ⟨g, off, none⟩ ∧ A3 = some ⟨gA, oA, none⟩ ∧ w.cell? ⟨gA, oA + k, none⟩ = some (.slice (some ⟨g, off, none⟩) 128 (q[k]).c) ∧ w.cell? ⟨g, off + at_, none⟩ = some (.int .u8 ((b : UInt8).toNat : Int)) ∧ w.frozen? ⟨g, off + at_, none⟩ = false ∧
      w.setCell ⟨g, off + at_, none⟩ (.int .u8 ((b ^^^ 1).toNat : Int)) = w' ∧ Below W0.heap.size W0 w' ∧ w'.cell? ⟨gA, oA + k, none⟩ = some (.slice (some ⟨g, off, none⟩) 128 (q[k]).c) ∧ (∀ k, markT T 0 g gA ≠ some (0, k)) ∧ gA < w'.heap.size ∧
      ∃ pg : List UInt8, pg.length = 128 ∧ (isTag (q[k]).l → ¬ isTag pg) ∧ ∀ w1, Below w'.heap.size w' w1 → Calls Tryd.prog 16 #[.pointer (some ⟨D, 0, none⟩), .int .i64 0, .int .i64 px, .slice (some ⟨g, off, none⟩) 128 (q[k]).c] w1 (DzEnd (.int .i64 0) W0 w1 (markT T 0 g) 0 D A (N + 1) (rs.set 0 (lz 1000 (ws ++ [(px, pg)])))) := by
  have hx := List.getElem_mem hk
  obtain ⟨g, off, cs, e, hg, hb, hc⟩ := hH _ hx
  obtain ⟨hs, hn, hl⟩ := hP.each _ hx
  have hRow : Row w 5 B (q[k]).a ((q[k]).l.map byteV) := fun _ => ⟨g, off, cs, e, hg, hb.has, hc⟩
  obtain ⟨g', off', e', hg', c1, c2, hA⟩ := row_turn9 hRow hl (by rw [← hn]; exact hs.room) hs.most at_ (by omega)
  rw [e] at e'
  injection e' with e'
  injection e' with e1 e2 _
  subst e1 e2
  obtain ⟨gA, oA, csA, eA, hbA, hcA⟩ := hD (by omega)
  have hne : gA ≠ g := Has.apart hbA.has hb.has (by decide)
  have hck : w.cell? ⟨gA, oA + k, none⟩ = some (.slice (some ⟨g, off, none⟩) 128 (q[k]).c) := by
    rw [hbA.has.cell]
    rw [hcA k _ (by rw [List.getElem?_map, List.getElem?_eq_getElem hk]; rfl)]
    simp [Hd.v, e, hn]
  have hW := grownBy_setCell' w g (.int .u8 0)
  have hgw : w.grownBy (w.setCell ⟨g, off + at_, none⟩ (.int .u8 (((q[k]).l[at_]'(by omega) ^^^ 1).toNat : Int))) (some g) := only_store (only_refl w g) (off + at_) _
  have hZ' := hZ.touch hb.un hb.has.lt (Nat.le_trans hB hg) hgw
  refine ⟨g, off, gA, oA, (q[k]).l[at_]'(by omega), _, e, eA, hck, c1, c2, rfl, hZ'.bel, ?_, (fun j hj => by
    unfold markT at hj
    rw [if_neg hne, hbA.un] at hj
    cases hj), Nat.lt_of_lt_of_le hbA.has.lt hgw.size, (q[k]).l.set at_ ((q[k]).l[at_]'(by omega) ^^^ 1), by rw [List.length_set]; exact hl, fun ht => turned (q[k]).l at_ (by omega) ht, fun w1 hb1 => ?_⟩
  · exact (cell_heap (p := ⟨gA, oA + k, none⟩) (hgw.block gA hbA.has.lt (fun h => hne (by injection h)))).trans hck
  · have hZ1 := hZ'.below hb1
    have hA1 := hA.below hb1
    have hw := wrA_at hr h0 h1 (b := (q[k]).l.set at_ ((q[k]).l[at_]'(by omega) ^^^ 1)) (by rw [List.length_set]; exact hl)
    refine (Write_any 0 px _ (some ⟨g, off, none⟩) 128 (q[k]).c hZ1.dk hZ1.lo.lt (by rw [List.length_set]; exact hl.symm) hA1.reads hA1.room (fun a ha j hj => by
      injection ha with ha
      subst ha
      unfold markT at hj
      rw [if_pos rfl] at hj
      injection hj with hj
      injection hj with hj _
      omega) (fun r hr => Nat.le_trans (hZ1.few r hr) hN)).mono ?_
    rintro e w' ⟨he, T', hd, htn⟩
    have hw' : wrA rs 0 px ((q[k]).l.set at_ ((q[k]).l[at_]'(by omega) ^^^ 1)) = (rs.set 0 (lz 1000 (ws ++ [(px, (q[k]).l.set at_ ((q[k]).l[at_]'(by omega) ^^^ 1))])), 0) := hw
    rw [hw'] at he hd
    refine ⟨he, T', hZ1.next htn hd ?_, htn⟩
    have := few_wrA hZ1.few 0 px ((q[k]).l.set at_ ((q[k]).l[at_]'(by omega) ^^^ 1))
    rw [hw'] at this
    exact this

end Go.Proofs.YtdoabcbembinjaaDoor
end

section
namespace Go.Proofs.YtdoabcbembinjaaDoor
open Go.RowKit
set_option linter.unusedVariables false

theorem PgT.drew9 {w : World} {T : Tg} {A : Option Addr} {n c : Nat} {q : List Hd} (h : PgT w T A n c q) : PgT w.drew T A n c q := h.below (Below.refl _ w).drew
theorem PgH.drew9 {w : World} {T : Tg} {B : Nat} {q : List Hd} (h : PgH w T B q) : PgH w.drew T B q := h.below (Below.refl _ w).drew
theorem HdH.drew9 {w : World} {T : Tg} {A : Option Addr} {q : List Hd} (h : HdH w T A q) : HdH w.drew T A q := h.below (Below.refl _ w).drew
set_option maxRecDepth 100000 in
set_option maxHeartbeats 8000000 in
theorem walkChBack (sb : ByteArray) (A : Option Addr) (n c : Nat) (l : List Int) (y : UInt8) (W : World) (ht : Tab W) (h : Ints6 W A n l) (hc : n ≤ c) (hcm : c ≤ maxLen) (hsz : sb.size ≤ 9223372036854775807) :
    Calls Tryd.prog 5 #[.string sb, .slice A n c, .int .u8 (y.toNat : Int)] W fun e W' => e = .returned (.bool true) ∧ Below W.heap.size W W' := by
  have hmx : Tryd.prog.follows .mixedOrders = true := by kernel_rfl
  have hcI : (n : Int) ≤ 9223372036854775807 := by unfold maxLen at hcm; omega
  have HAW := Lib.hid (awake09_any W ht)
  by_cases hs : 600 < sb.size
  · have hsI : (600 : Int) < (sb.size : Int) := by omega
    clear hc hcm h
    go_enter Tryd.func5, Tryd.ntmps5
    go_wp2_with (go_at_call 8; (with_reducible refine HAW.out.mono ?_); rintro e w1 ⟨rfl, b1⟩; have B1 := Lib.hid b1; clear b1)
    go_ret
    exact ⟨rfl, B1.out⟩
  · by_cases hn : 20 < n
    · have hsI : ¬ (600 : Int) < (sb.size : Int) := by omega
      have hnI : (20 : Int) < (n : Int) := by omega
      clear hc hcm h
      go_enter Tryd.func5, Tryd.ntmps5
      go_wp2_with (go_at_call 8; (with_reducible refine HAW.out.mono ?_); rintro e w1 ⟨rfl, b1⟩; have B1 := Lib.hid b1; clear b1)
      go_ret
      exact ⟨rfl, B1.out⟩
    · have hsI : ¬ (600 : Int) < (sb.size : Int) := by omega
      have hnI : ¬ (20 : Int) < (n : Int) := by omega
      obtain ⟨s, hse⟩ : ∃ s : List UInt8, (⟨s.toArray⟩ : ByteArray) = sb := ⟨sb.data.toList, by simp⟩
      have hsl : s.length = sb.size := by rw [← size_list, hse]
      have HPU : Hid (∀ w1, Below W.heap.size W w1 → Calls Tryd.prog 9 #[.string sb, .slice A n c] w1 (PutEnd s l w1)) := Lib.hid (fun w1 b1 => by
        rw [← hse]
        exact hPut_any s A n c l w1 (ht.below b1) (by omega) (h.below9 b1) (by omega) hc hcm)
      unfold PutEnd at HPU
      by_cases hg : goodP s l
      · have hp : putN s l = (pagesN s l, 0) := by unfold putN; rw [if_pos hg]
        rw [hp] at HPU
        have hln : n = l.length := h.len
        have hnd : n = needN s.length := hln.trans hg.2.1
        obtain ⟨hne, hz1, hz2⟩ := need_pos hg.1
        rw [Int.toNat_natCast, ← hnd] at hne
        have hn1 : 1 ≤ n := by omega
        have hn4 : n ≤ 4 := by omega
        have hgc := fun w1 T D AD N ws (hz : Dz W w1 T 0 D AD N [lz 1000 ws]) p => hGet_any 0 p (s.length : Int) (ht.below hz.bel) hz.dk
        rw [hsl] at hgc
        have HGC := Lib.hid hgc
        have HND := Lib.hid (hNeed_any (s.length : Int))
        rw [← hnd, hsl] at HND
        have HG := Lib.hid hg
        have HA := Lib.hid h
        have HLN := Lib.hid hln
        have HSE := Lib.hid hse
        have HSLN := Lib.hid hsl
        obtain ⟨ga, oa, rfl⟩ : ∃ ga oa, A = some ⟨ga, oa, none⟩ := by
          obtain ⟨g, off, e, _⟩ := h.reads (by rw [List.length_map]; omega)
          exact ⟨g, off, e⟩
        have HPX : Hid (∀ k, k < n → 2 ≤ l.getD k 0 ∧ l.getD k 0 ≤ 999 ∧ ∀ w1, Below W.heap.size W w1 → w1.cell? ⟨ga, oa + k, none⟩ = some (.int .i64 (l.getD k 0))) := Lib.hid (fun k hk => by
          have h1 := getD_some (l := l) (j := k) (by rw [← hln]; exact hk)
          obtain ⟨g', o', e, hcc⟩ := h.at_ h1
          injection e with e
          injection e with e1 e2 _
          subst e1 e2
          have h2 := okP_pg hg.2.2 h1
          exact ⟨h2.1, h2.2, fun w1 b => cell_below hcc b⟩)
        have HNW : Hid (∀ w2, Below W.heap.size W w2 → ∀ X2, w2.alloc (.cells #[.int .i64 1000] 3) = X2 → Calls Tryd.prog 14 #[.slice (some ⟨w2.heap.size, 0, none⟩) 1 1] X2 fun e w' => ∃ D A T', e = .returned (.tuple #[.pointer (some ⟨D, 0, none⟩), .int .i64 0]) ∧ Dz W w' T' 0 D A 0 [lz 1000 []] ∧ Tn noT 0 X2 T' w' ∧ Below X2.heap.size X2 w') := Lib.hid (fun w2 b X2 e => by
          subst e
          exact New_z (w0 := W) (c := 1) 0 (ints_lit w2 [1000] _ rfl) (lo_none _ _) (b.alloc b.size _) (by decide))
        have HR3 := Lib.hid (fun A4 c4 w1 (h4 : Ints6 w1 A4 n l) (b1 : Below W.heap.size W w1) => r3Ints_z l A4 (some ⟨ga, oa, none⟩) n c4 c w1 hln h4.reads (h.below9 b1).reads (by omega))
        have hrem : ((y.toNat : Int)).tmod (n : Int) = ((y.toNat % n : Nat) : Int) := by rw [Int.tmod_eq_emod_of_nonneg (by omega)]; exact (Int.natCast_emod _ _).symm
        have hrem2 : ((y.toNat : Int)).tmod 128 = ((y.toNat % 128 : Nat) : Int) := by rw [Int.tmod_eq_emod_of_nonneg (by omega)]; exact (Int.natCast_emod _ _).symm
        have hkk : y.toNat % n < n := Nat.mod_lt _ (by omega)
        have haa : y.toNat % 128 < 128 := Nat.mod_lt _ (by omega)
        generalize y.toNat % n = kk at hrem hkk
        generalize y.toNat % 128 = aa at hrem2 haa
        have hyb : (0 : Int) ≤ (y.toNat : Int) := by omega
        have hyb2 : (y.toNat : Int) ≤ 255 := by have := y.toNat_lt; omega
        clear hse h ht hs hn hp hg hnd hln hne hsl hgc
        go_enter Tryd.func5, Tryd.ntmps5
        go_wp2_with (first
          | (go_at_call 8; (with_reducible refine HAW.out.mono ?_); rintro e w1 ⟨rfl, b1⟩; have B1 := Lib.hid b1; clear b1)
          | (go_at_call 9; (with_reducible refine (HPU.out _ B1.out).mono ?_); rintro e w2 ⟨A2, n2, c2, q, rfl, hC, hq, hR, b2, hRw⟩; have hn2 : n2 = n := (hC.len.trans ((lq_pages hq).1.trans HLN.out.symm)); subst hn2; have hq' : lq q = (putN s l).1 := (by have := HG.out; unfold putN; rw [if_pos this]; exact hq); have P2 := Lib.hid (PgT.of_put (T := noT) hC hq' hR hRw (fun _ _ => rfl)); have H2 := Lib.hid (PgH.of_put (T := noT) hR (fun _ _ => rfl)); have D2 := Lib.hid (HdH.of_put (T := noT) hRw (fun _ _ => rfl)); have HQ := Lib.hid hq; have HB1S := Lib.hid B1.out.size; have B2 := Lib.hid (below_step B1.out b2); obtain ⟨X2, hX2⟩ : ∃ X2, w2.alloc (.cells #[.int .i64 1000] 3) = X2 := ⟨_, rfl⟩; have BX := Lib.hid (show Below w2.heap.size w2 X2 from hX2 ▸ (Below.refl _ w2).alloc (Nat.le_refl _) _); have HX2 := Lib.hid hX2; clear hC hq hq' hR hRw b2 hX2)
          | (go_at_call 14; (try rw [HX2.out]); (with_reducible refine (HNW.out _ B2.out _ HX2.out).mono ?_); rintro e w3 ⟨D, AD, T3, rfl, hz3, ht3, _⟩; have Z3 := Lib.hid hz3; have P3 := Lib.hid ((P2.out.below BX.out).tn ht3); have H3 := Lib.hid ((H2.out.below BX.out).tn ht3); have D3 := Lib.hid ((D2.out.below BX.out).tn ht3); clear hz3 ht3))
        have hql : q.length = n2 := (lq_pages HQ.out).1.trans HLN.out.symm
        obtain ⟨gA, oA, rfl⟩ : ∃ gA oA, A2 = some ⟨gA, oA, none⟩ := by
          obtain ⟨g, off, cs, e, _⟩ := D3.out (by omega)
          exact ⟨g, off, e⟩
        have HQL := Lib.hid hql
        clear hql
        go_loopw [12] (fun i wr => ∃ (k : Nat) (T' : Tg), k ≤ n2 ∧ i = .int .i64 (k : Int) ∧ Dz W wr T' 0 D AD k [lz 1000 (wsN s l k)] ∧ PgT wr T' (some ⟨gA, oA, none⟩) n2 c2 q ∧ PgH wr T' w1.heap.size q ∧ HdH wr T' (some ⟨gA, oA, none⟩) q) (fun i _ => n2 - (intOf i).toNat)
        case atStart => exact ⟨0, T3, Nat.zero_le _, rfl, Z3.out, P3.out, H3.out, D3.out⟩
        case round =>
          obtain ⟨k, T', hk, rfl, hz, hp, hh, hd⟩ := hrel
          have Z := Lib.hid hz
          have P := Lib.hid hp
          have H := Lib.hid hh
          have HH := Lib.hid hd
          clear hz hp hh hd
          by_cases hlt : k < n2
          · have hqk : k < q.length := by rw [HQL.out]; exact hlt
            have HCK : Hid (∀ w5 T5, PgT w5 T5 (some ⟨gA, oA, none⟩) n2 c2 q → w5.cell? ⟨gA, oA + k, none⟩ = some (.slice (q[k]).a 128 (q[k]).c)) := Lib.hid (fun w5 T5 h => by
              obtain ⟨g', o', e, hc⟩ := h.at hqk
              injection e with e
              injection e with e1 e2 _
              subst e1 e2
              rw [(h.each _ (List.getElem_mem hqk)).2.1] at hc
              exact hc)
            obtain ⟨hp1, hp2, hp3⟩ := HPX.out k hlt
            have HCA := Lib.hid hp3
            have HWR : Hid (∀ w5, Below wr.heap.size wr w5 → Calls Tryd.prog 16 #[.pointer (some ⟨D, 0, none⟩), .int .i64 0, .int .i64 (l.getD k 0), .slice (q[k]).a 128 (q[k]).c] w5 (DzEnd (.int .i64 0) W w5 T' 0 D AD (k + 1) [lz 1000 (wsN s l (k + 1))])) := Lib.hid (fun w5 b5 => by
              obtain ⟨hkq, hw⟩ := awake_step (r := 0) (m := 1000) (rs := [lz 1000 (wsN s l k)]) (Z.out.below b5) (by omega) rfl (P.out.below b5) HQ.out HG.out.2.2 (by rw [← HLN.out]; exact hlt) (by omega)
              exact hw)
            generalize hpx : l.getD k 0 = px at HCA HWR hp1 hp2
            generalize q[k] = y at HCK HWR
            have hSd : (fun w' : World => w'.cell? ⟨gA, oA + k, none⟩ = some (.slice y.a 128 y.c) ∧ w'.cell? ⟨ga, oa + k, none⟩ = some (.int .i64 px)) wr.drew := ⟨HCK.out wr T' P.out, HCA.out wr Z.out.bel⟩
            have hkI : (k : Int) < (n2 : Int) := by omega
            have hk0 : (0 : Int) ≤ (k : Int) := by omega
            clear hpx hp3 hqk
            go_wp2
            rename_i K hK
            refine wp_held (fun w' : World => w'.cell? ⟨gA, oA + k, none⟩ = some (.slice y.a 128 y.c) ∧ w'.cell? ⟨ga, oa + k, none⟩ = some (.int .i64 px)) K hmx ?_ (fun _ _ h => h)
            refine wpAnyH_take (i := 0) (v := .slice (some ⟨gA, oA, none⟩) n2 c2) rfl (by kernel_rfl) (by kernel_rfl) (by kernel_rfl) (fun _ _ _ h => h) (Or.inl ⟨by rfl, ?_⟩) hSd ?_
            · rintro w6 ⟨k1, k2⟩
              go_simp
            simp only [Act.put, List.setIfInBounds_toArray, List.set_cons_zero, List.set_cons_succ, List.getElem_toArray, List.getElem_cons_zero]
            refine wpAnyH_take (i := 1) (v := .int .i64 (k : Int)) rfl (by kernel_rfl) (by kernel_rfl) (by kernel_rfl) (fun _ _ _ h => h) (Or.inl ⟨by rfl, ?_⟩) hSd ?_
            · rintro w6 ⟨k1, k2⟩
              go_simp
            simp only [Act.put, List.setIfInBounds_toArray, List.set_cons_zero, List.set_cons_succ, List.getElem_toArray, List.getElem_cons_zero, List.getElem_cons_succ]
            refine wpAnyH_take (i := 2) (v := .pointer (some ⟨gA, oA + k, none⟩)) rfl (by kernel_rfl) (by kernel_rfl) (by kernel_rfl) (fun _ _ _ h => h) (Or.inl ⟨by rfl, ?_⟩) hSd ?_
            · rintro w6 ⟨k1, k2⟩
              go_simp
            simp only [Act.put, List.setIfInBounds_toArray, List.set_cons_zero, List.set_cons_succ, List.getElem_toArray, List.getElem_cons_zero, List.getElem_cons_succ]
            refine wpAnyH_take (i := 3) (v := .slice y.a 128 y.c) rfl (by kernel_rfl) (by kernel_rfl) (by kernel_rfl) (fun _ _ _ h => h) (Or.inl ⟨by rfl, ?_⟩) hSd ?_
            · rintro w6 ⟨k1, k2⟩
              go_simp
            simp only [Act.put, List.setIfInBounds_toArray, List.set_cons_zero, List.set_cons_succ, List.getElem_toArray, List.getElem_cons_zero, List.getElem_cons_succ]
            refine wpAnyH_take (i := 4) (v := .int .i64 128) rfl (by kernel_rfl) (by kernel_rfl) (by kernel_rfl) (fun _ _ _ h => h) (Or.inl ⟨by rfl, ?_⟩) hSd ?_
            · rintro w6 ⟨k1, k2⟩
              go_simp
            simp only [Act.put, List.setIfInBounds_toArray, List.set_cons_zero, List.set_cons_succ, List.getElem_toArray, List.getElem_cons_zero, List.getElem_cons_succ]
            refine wpAnyH_take (i := 5) (v := .bool false) rfl (by kernel_rfl) (by kernel_rfl) (by kernel_rfl) (fun _ _ _ h => h) (Or.inl ⟨by rfl, ?_⟩) hSd ?_
            · rintro w6 ⟨k1, k2⟩
              go_simp
            simp only [Act.put, List.setIfInBounds_toArray, List.set_cons_zero, List.set_cons_succ, List.getElem_toArray, List.getElem_cons_zero, List.getElem_cons_succ]
            refine wpAnyH_take (i := 6) (v := .bool false) rfl (by kernel_rfl) (by kernel_rfl) (by kernel_rfl) (fun _ _ _ h => h) (Or.inl ⟨by rfl, ?_⟩) hSd ?_
            · rintro w6 ⟨k1, k2⟩
              go_simp
            simp only [Act.put, List.setIfInBounds_toArray, List.set_cons_zero, List.set_cons_succ, List.getElem_toArray, List.getElem_cons_zero, List.getElem_cons_succ]
            refine wpAnyH_take (i := 7) (v := .pointer (some ⟨D, 0, none⟩)) rfl (by kernel_rfl) (by kernel_rfl) (by kernel_rfl) (fun _ _ _ h => h) (Or.inl ⟨by rfl, ?_⟩) hSd ?_
            · rintro w6 ⟨k1, k2⟩
              go_simp
            simp only [Act.put, List.setIfInBounds_toArray, List.set_cons_zero, List.set_cons_succ, List.getElem_toArray, List.getElem_cons_zero, List.getElem_cons_succ]
            refine wpAnyH_take (i := 8) (v := .slice (some ⟨ga, oa, none⟩) n2 c) rfl (by kernel_rfl) (by kernel_rfl) (by kernel_rfl) (fun _ _ _ h => h) (Or.inl ⟨by rfl, ?_⟩) hSd ?_
            · rintro w6 ⟨k1, k2⟩
              go_simp
            simp only [Act.put, List.setIfInBounds_toArray, List.set_cons_zero, List.set_cons_succ, List.getElem_toArray, List.getElem_cons_zero, List.getElem_cons_succ]
            refine wpAnyH_take (i := 9) (v := .int .i64 (k : Int)) rfl (by kernel_rfl) (by kernel_rfl) (by kernel_rfl) (fun _ _ _ h => h) (Or.inl ⟨by rfl, ?_⟩) hSd ?_
            · rintro w6 ⟨k1, k2⟩
              go_simp
            simp only [Act.put, List.setIfInBounds_toArray, List.set_cons_zero, List.set_cons_succ, List.getElem_toArray, List.getElem_cons_zero, List.getElem_cons_succ]
            refine wpAnyH_take (i := 10) (v := .pointer (some ⟨ga, oa + k, none⟩)) rfl (by kernel_rfl) (by kernel_rfl) (by kernel_rfl) (fun _ _ _ h => h) (Or.inl ⟨by rfl, ?_⟩) hSd ?_
            · rintro w6 ⟨k1, k2⟩
              go_simp
            simp only [Act.put, List.setIfInBounds_toArray, List.set_cons_zero, List.set_cons_succ, List.getElem_toArray, List.getElem_cons_zero, List.getElem_cons_succ]
            refine wpAnyH_take (i := 11) (v := .int .i64 px) rfl (by kernel_rfl) (by kernel_rfl) (by kernel_rfl) (fun _ _ _ h => h) (Or.inl ⟨by rfl, ?_⟩) hSd ?_
            · rintro w6 ⟨k1, k2⟩
              go_simp
            simp only [Act.put, List.setIfInBounds_toArray, List.set_cons_zero, List.set_cons_succ, List.getElem_toArray, List.getElem_cons_zero, List.getElem_cons_succ]
            refine wpAnyH_take (i := 12) (v := .slice (some ⟨gA, oA, none⟩) n2 c2) rfl (by kernel_rfl) (by kernel_rfl) (by kernel_rfl) (fun _ _ _ h => h) (Or.inl ⟨by rfl, ?_⟩) hSd ?_
            · rintro w6 ⟨k1, k2⟩
              go_simp
            simp only [Act.put, List.setIfInBounds_toArray, List.set_cons_zero, List.set_cons_succ, List.getElem_toArray, List.getElem_cons_zero, List.getElem_cons_succ]
            refine wpAnyH_take (i := 13) (v := .int .i64 (k : Int)) rfl (by kernel_rfl) (by kernel_rfl) (by kernel_rfl) (fun _ _ _ h => h) (Or.inl ⟨by rfl, ?_⟩) hSd ?_
            · rintro w6 ⟨k1, k2⟩
              go_simp
            simp only [Act.put, List.setIfInBounds_toArray, List.set_cons_zero, List.set_cons_succ, List.getElem_toArray, List.getElem_cons_zero, List.getElem_cons_succ]
            refine wpAnyH_take (i := 14) (v := .pointer (some ⟨gA, oA + k, none⟩)) rfl (by kernel_rfl) (by kernel_rfl) (by kernel_rfl) (fun _ _ _ h => h) (Or.inl ⟨by rfl, ?_⟩) hSd ?_
            · rintro w6 ⟨k1, k2⟩
              go_simp
            simp only [Act.put, List.setIfInBounds_toArray, List.set_cons_zero, List.set_cons_succ, List.getElem_toArray, List.getElem_cons_zero, List.getElem_cons_succ]
            refine wpAnyH_take (i := 15) (v := .slice y.a 128 y.c) rfl (by kernel_rfl) (by kernel_rfl) (by kernel_rfl) (fun _ _ _ h => h) (Or.inl ⟨by rfl, ?_⟩) hSd ?_
            · rintro w6 ⟨k1, k2⟩
              go_simp
            simp only [Act.put, List.setIfInBounds_toArray, List.set_cons_zero, List.set_cons_succ, List.getElem_toArray, List.getElem_cons_zero, List.getElem_cons_succ]
            refine wpAnyH_ready (rs := [16]) (by kernel_rfl) (by simp) ?_
            refine AllReadyH.cons rfl (fun K5 hK5 => ?_) AllReadyH.nil
            go_simp
            go_at_call 16
            refine (HWR.out _ (Below.refl _ _).drew).mono ?_
            rintro e5 w5 ⟨rfl, T5, z5, t5⟩
            have Z5 := Lib.hid z5
            have P5 := Lib.hid (P.out.drew9.tn t5)
            have H5 := Lib.hid (H.out.drew9.tn t5)
            have D5 := Lib.hid (HH.out.drew9.tn t5)
            have hS5 : w5.cell? ⟨gA, oA + k, none⟩ = some (.slice y.a 128 y.c) ∧ w5.cell? ⟨ga, oa + k, none⟩ = some (.int .i64 px) := ⟨HCK.out w5 T5 P5.out, HCA.out w5 Z5.out.bel⟩
            clear z5 t5
            refine hK5.out _ _ hS5 (fun _ => ?_)
            clear hK5 K5
            refine wpAnyH_take (i := 17) (v := .bool false) rfl (by kernel_rfl) (by kernel_rfl) (by kernel_rfl) (fun _ _ _ h => h) (Or.inl ⟨by rfl, ?_⟩) hS5 ?_
            · rintro w6 ⟨k1, k2⟩
              go_simp
            simp only [Act.put, List.setIfInBounds_toArray, List.set_cons_zero, List.set_cons_succ, List.getElem_toArray, List.getElem_cons_zero, List.getElem_cons_succ]
            refine wpAnyH_take (i := 18) (v := .bool false) rfl (by kernel_rfl) (by kernel_rfl) (by kernel_rfl) (fun _ _ _ h => h) (Or.inl ⟨by rfl, ?_⟩) hS5 ?_
            · rintro w6 ⟨k1, k2⟩
              go_simp
            simp only [Act.put, List.setIfInBounds_toArray, List.set_cons_zero, List.set_cons_succ, List.getElem_toArray, List.getElem_cons_zero, List.getElem_cons_succ]
            refine wpAnyH_done (by kernel_rfl) ?_ _
            refine hK _ _ ?_
            go_wp2
            go_roundw
            case rel => exact ⟨k + 1, T5, by omega, by go_num, Z5.out, P5.out, H5.out, D5.out⟩
            case measure => simp [intOf]; omega
          · obtain rfl : k = n2 := by omega
            have hks : wsN s l k = wsN s l l.length := by rw [← HLN.out]
            have hrd := rd_lz (rs := [lz 1000 (wsN s l k)]) (k := 0) rfl HG.out.2.2 (fun x hx => by have := okP_mem HG.out.2.2 hx; omega) (fun j hj => pgW_ws HG.out.2.2 k j (by rw [HLN.out]; exact Nat.le_refl _) (by rw [HLN.out]; exact hj))
            have hge := HGC.out wr T' D AD k _ Z.out (l.getD 0 0)
            have hgr := getC_put HG.out hrd
            rw [HSLN.out] at hgr
            have hgr2 : getC (fun p => (rdL [lz 1000 (wsN s l k)] 0 p, rdE [lz 1000 (wsN s l k)] 0 p)) (sb.size : Int) (l.getD 0 0) = (s, l, 0) := hgr
            rw [hgr2] at hge
            unfold GetEnd at hge
            simp only at hge
            rw [HSE.out] at hge
            have HGE := Lib.hid hge
            obtain ⟨hp1, hp2, hp3⟩ := HPX.out 0 (by omega)
            have HP0 := Lib.hid hp3
            simp only [Nat.add_zero] at HP0
            obtain ⟨px1, px2, px3⟩ := HPX.out kk hkk
            have HPK := Lib.hid px3
            -- behind the turned byte
            have HL1 : Hid (∀ pg, pg.length = 128 → ¬ isTag pg → (getC (fun p => (rdL [lz 1000 (wsN s l k ++ [(l.getD kk 0, pg)])] 0 p, rdE [lz 1000 (wsN s l k ++ [(l.getD kk 0, pg)])] 0 p)) (sb.size : Int) (l.getD 0 0)).2.2 = 12) := Lib.hid (fun pg h1 h2 => by
              have hkl : kk < l.length := by rw [← HLN.out]; exact hkk
              have := getC_lost (rd := fun p => (rdL [lz 1000 (wsN s l k ++ [(l.getD kk 0, pg)])] 0 p, rdE [lz 1000 (wsN s l k ++ [(l.getD kk 0, pg)])] 0 p)) HG.out kk hkl (fun j x hj hx => by
                have hjl := (List.getElem?_eq_some_iff.1 hx).1
                have e : l.getD j 0 = x := by rw [List.getD_eq_getElem?_getD, hx]; rfl
                have hp := okP_pg HG.out.2.2 hx
                have h3 := rdL_at (rs := [lz 1000 (wsN s l k ++ [(l.getD kk 0, pg)])]) (k := 0) rfl (p := x) (by omega) (by omega)
                have h4 := rdE_at (rs := [lz 1000 (wsN s l k ++ [(l.getD kk 0, pg)])]) (k := 0) rfl (p := x) (by omega) (by omega)
                rw [pgW_snoc, if_neg (by rw [← e]; exact okP_ne' HG.out.2.2 hjl hkl (by omega)), ← e, pgW_ws HG.out.2.2 k j (by rw [HLN.out]; exact Nat.le_refl _) (by rw [HLN.out]; exact hjl), e] at h3
                exact Prod.ext h3 h4) pg (by
                have h3 := rdL_at (rs := [lz 1000 (wsN s l k ++ [(l.getD kk 0, pg)])]) (k := 0) rfl (p := l.getD kk 0) (by omega) (by omega)
                have h4 := rdE_at (rs := [lz 1000 (wsN s l k ++ [(l.getD kk 0, pg)])]) (k := 0) rfl (p := l.getD kk 0) (by omega) (by omega)
                rw [pgW_snoc, if_pos rfl] at h3
                exact Prod.ext h3 h4) (unp_bad h1 h2)
              rw [HSLN.out] at this
              exact this)
            have HL2 : Hid (∀ pg, (getC (fun p => (rdL [lz 1000 (wsN s l k ++ [(l.getD kk 0, pg)])] 0 p, rdE [lz 1000 (wsN s l k ++ [(l.getD kk 0, pg)])] 0 p)) (sb.size : Int) 1).2.2 = 12) := Lib.hid (fun pg => by
              have h3 := rdL_at (rs := [lz 1000 (wsN s l k ++ [(l.getD kk 0, pg)])]) (k := 0) rfl (p := 1) (by omega) (by omega)
              have h4 := rdE_at (rs := [lz 1000 (wsN s l k ++ [(l.getD kk 0, pg)])]) (k := 0) rfl (p := 1) (by omega) (by omega)
              rw [pgW_snoc, if_neg (by omega), ws_not (fun hm => by have := okP_mem HG.out.2.2 hm; omega) k (by rw [HLN.out]; exact Nat.le_refl _)] at h3
              have := getC_first (rd := fun p => (rdL [lz 1000 (wsN s l k ++ [(l.getD kk 0, pg)])] 0 p, rdE [lz 1000 (wsN s l k ++ [(l.getD kk 0, pg)])] 0 p)) (p := 1) HG.out.1 (Prod.ext h3 h4) (unp_bad (by decide) zeros_bad)
              rw [HSLN.out] at this
              exact this)
            have hkq : kk < q.length := by rw [HQL.out]; exact hkk
            have HTAG : Hid (isTag (q[kk]).l) := Lib.hid (by rw [(lq_pages HQ.out).2 kk hkq]; exact isTag_page _ _)
            generalize hpx : l.getD kk 0 = px at HL1 HL2 HPK px1 px2
            generalize hp0 : l.getD 0 0 = p0 at HL1 HGE HP0 hp1 hp2
            have h128 : (aa : Int) < 128 := by omega
            have ha0 : (0 : Int) ≤ (aa : Int) := by omega
            have hkkI : (kk : Int) < (k : Int) := by omega
            have hkk0 : (0 : Int) ≤ (kk : Int) := by omega
            have hknz : ((k : Int) == 0) = false := by simp; omega
            have hc0 := HP0.out wr Z.out.bel
            obtain ⟨w3', hw3'⟩ : ∃ w3' : World, w3' = wr := ⟨_, rfl⟩
            subst hw3'
            clear hks hrd hge hgr hgr2 hp3 px3 hpx hp0
            go_wp2_with (first
              | (go_at_call 18; go_loud ((with_reducible refine HGE.out.mono ?_); rintro e w4 ⟨A4, n4, c4, rfl, hI4, b4⟩; have hn4' : n4 = k := hI4.len.trans HLN.out.symm; subst hn4'; have I4 := Lib.hid hI4; have Z4 := Lib.hid (Z.out.below b4); have P4 := Lib.hid (P.out.below b4); have H4 := Lib.hid (H.out.below b4); have D4 := Lib.hid (HH.out.below b4); clear hI4 b4))
              | (go_at_call 20; go_loud ((with_reducible refine (HR3.out _ _ _ I4.out Z4.out.bel).mono ?_); rintro e w5 ⟨rfl, b5⟩; obtain ⟨g, off, gA', oA', bb, w6, hqa, hA6, hck5, hcb, hfr, hset, hbel6, hck6, hmk, hglt, pg, hpl, htg, hwr⟩ := turn9 (Z4.out.below b5) (by omega) rfl (H4.out.below b5) (P4.out.below b5) (D4.out.below b5) HB1S.out hkq haa (px := px) (by omega) (by omega); injection hA6 with hA6; injection hA6 with hA61 hA62 _; subst hA61 hA62; have HW2 := Lib.hid hwr; have B6 := Lib.hid hbel6; have hpa5 := HPK.out w5 (Z4.out.below b5).bel; have hpa6 := HPK.out w6 hbel6; have hc06 := HP0.out w6 hbel6; have hxor := xor_one9 bb; have HSET : Hid (w5.setCell ⟨g, off + aa, none⟩ (.int .u8 ((bb.toNat ^^^ 1 : Nat) : Int)) = w6) := Lib.hid (by rw [← hset, UInt8.toNat_xor]; rfl); have HMK := Lib.hid hmk; have HGLT := Lib.hid hglt; have HPGL := Lib.hid hpl; have HPGT := Lib.hid (htg HTAG.out); clear b5 hset hqa hbel6 hpl htg hwr hmk hglt; generalize hyc : (q[kk]).c = yc at *; clear hyc))
              | (go_at_call 11; go_loud ((with_reducible refine (HND.out _).mono ?_); rintro e w7 ⟨rfl, rfl⟩)))
            rw [HSET.out]
            have hSd : (fun w' : World => w'.cell? ⟨gA, oA + kk, none⟩ = some (.slice (some ⟨g, off, none⟩) 128 yc) ∧ w'.cell? ⟨ga, oa + kk, none⟩ = some (.int .i64 px)) w6.drew := ⟨hck6, hpa6⟩
            rename_i K hK
            refine wp_held (fun w' : World => w'.cell? ⟨gA, oA + kk, none⟩ = some (.slice (some ⟨g, off, none⟩) 128 yc) ∧ w'.cell? ⟨ga, oa + kk, none⟩ = some (.int .i64 px)) K hmx ?_ (fun _ _ h => h)
            refine wpAnyH_take (i := 0) (v := .pointer (some ⟨D, 0, none⟩)) rfl (by kernel_rfl) (by kernel_rfl) (by kernel_rfl) (fun _ _ _ h => h) (Or.inl ⟨by rfl, ?_⟩) hSd ?_
            · rintro w6 ⟨k1, k2⟩
              go_simp
            simp only [Act.put, List.setIfInBounds_toArray, List.set_cons_zero, List.set_cons_succ, List.getElem_toArray, List.getElem_cons_zero]
            refine wpAnyH_take (i := 1) (v := .slice (some ⟨ga, oa, none⟩) n4 c) rfl (by kernel_rfl) (by kernel_rfl) (by kernel_rfl) (fun _ _ _ h => h) (Or.inl ⟨by rfl, ?_⟩) hSd ?_
            · rintro w6 ⟨k1, k2⟩
              go_simp
            simp only [Act.put, List.setIfInBounds_toArray, List.set_cons_zero, List.set_cons_succ, List.getElem_toArray, List.getElem_cons_zero, List.getElem_cons_succ]
            refine wpAnyH_take (i := 2) (v := .int .i64 (kk : Int)) rfl (by kernel_rfl) (by kernel_rfl) (by kernel_rfl) (fun _ _ _ h => h) (Or.inl ⟨by rfl, ?_⟩) hSd ?_
            · rintro w6 ⟨k1, k2⟩
              go_simp
            simp only [Act.put, List.setIfInBounds_toArray, List.set_cons_zero, List.set_cons_succ, List.getElem_toArray, List.getElem_cons_zero, List.getElem_cons_succ]
            refine wpAnyH_take (i := 3) (v := .pointer (some ⟨ga, oa + kk, none⟩)) rfl (by kernel_rfl) (by kernel_rfl) (by kernel_rfl) (fun _ _ _ h => h) (Or.inl ⟨by rfl, ?_⟩) hSd ?_
            · rintro w6 ⟨k1, k2⟩
              go_simp
            simp only [Act.put, List.setIfInBounds_toArray, List.set_cons_zero, List.set_cons_succ, List.getElem_toArray, List.getElem_cons_zero, List.getElem_cons_succ]
            refine wpAnyH_take (i := 4) (v := .int .i64 px) rfl (by kernel_rfl) (by kernel_rfl) (by kernel_rfl) (fun _ _ _ h => h) (Or.inl ⟨by rfl, ?_⟩) hSd ?_
            · rintro w6 ⟨k1, k2⟩
              go_simp
            simp only [Act.put, List.setIfInBounds_toArray, List.set_cons_zero, List.set_cons_succ, List.getElem_toArray, List.getElem_cons_zero, List.getElem_cons_succ]
            refine wpAnyH_take (i := 5) (v := .slice (some ⟨gA, oA, none⟩) n4 c2) rfl (by kernel_rfl) (by kernel_rfl) (by kernel_rfl) (fun _ _ _ h => h) (Or.inl ⟨by rfl, ?_⟩) hSd ?_
            · rintro w6 ⟨k1, k2⟩
              go_simp
            simp only [Act.put, List.setIfInBounds_toArray, List.set_cons_zero, List.set_cons_succ, List.getElem_toArray, List.getElem_cons_zero, List.getElem_cons_succ]
            refine wpAnyH_take (i := 6) (v := .int .i64 (kk : Int)) rfl (by kernel_rfl) (by kernel_rfl) (by kernel_rfl) (fun _ _ _ h => h) (Or.inl ⟨by rfl, ?_⟩) hSd ?_
            · rintro w6 ⟨k1, k2⟩
              go_simp
            simp only [Act.put, List.setIfInBounds_toArray, List.set_cons_zero, List.set_cons_succ, List.getElem_toArray, List.getElem_cons_zero, List.getElem_cons_succ]
            refine wpAnyH_take (i := 7) (v := .pointer (some ⟨gA, oA + kk, none⟩)) rfl (by kernel_rfl) (by kernel_rfl) (by kernel_rfl) (fun _ _ _ h => h) (Or.inl ⟨by rfl, ?_⟩) hSd ?_
            · rintro w6 ⟨k1, k2⟩
              go_simp
            simp only [Act.put, List.setIfInBounds_toArray, List.set_cons_zero, List.set_cons_succ, List.getElem_toArray, List.getElem_cons_zero, List.getElem_cons_succ]
            refine wpAnyH_take (i := 8) (v := .slice (some ⟨g, off, none⟩) 128 yc) rfl (by kernel_rfl) (by kernel_rfl) (by kernel_rfl) (fun _ _ _ h => h) (Or.inl ⟨by rfl, ?_⟩) hSd ?_
            · rintro w6 ⟨k1, k2⟩
              go_simp
            simp only [Act.put, List.setIfInBounds_toArray, List.set_cons_zero, List.set_cons_succ, List.getElem_toArray, List.getElem_cons_zero, List.getElem_cons_succ]
            refine wpAnyH_ready (rs := [9]) (by kernel_rfl) (by simp) ?_
            refine AllReadyH.cons rfl (fun K5 hK5 => ?_) AllReadyH.nil
            go_simp
            go_at_call 16
            refine (HW2.out _ (Below.refl _ _).drew).mono ?_
            rintro e8 w8 ⟨rfl, T8, z8, t8⟩
            have Z8 := Lib.hid z8
            have hS8 : w8.cell? ⟨gA, oA + kk, none⟩ = some (.slice (some ⟨g, off, none⟩) 128 yc) ∧ w8.cell? ⟨ga, oa + kk, none⟩ = some (.int .i64 px) := ⟨(cell_heap (p := ⟨gA, oA + kk, none⟩) (t8.block gA HGLT.out HMK.out)).trans hck6, HPK.out w8 Z8.out.bel⟩
            clear z8 t8
            refine hK5.out _ _ hS8 (fun _ => ?_)
            clear hK5 K5
            refine wpAnyH_done (by kernel_rfl) ?_ _
            refine hK _ _ ?_
            have hc08 := HP0.out w8 Z8.out.bel
            obtain ⟨⟨s9, l9, e9⟩, hr9⟩ : ∃ r, getC (fun p => (rdL [lz 1000 (wsN s l n4 ++ [(px, pg)])] 0 p, rdE [lz 1000 (wsN s l n4 ++ [(px, pg)])] 0 p)) (sb.size : Int) p0 = r := ⟨_, rfl⟩
            have he9 : e9 = 12 := by have := HL1.out pg HPGL.out HPGT.out; rw [hr9] at this; exact this
            subst he9
            obtain ⟨⟨s10, l10, e10⟩, hr10⟩ : ∃ r, getC (fun p => (rdL [lz 1000 (wsN s l n4 ++ [(px, pg)])] 0 p, rdE [lz 1000 (wsN s l n4 ++ [(px, pg)])] 0 p)) (sb.size : Int) 1 = r := ⟨_, rfl⟩
            have he10 : e10 = 12 := by have := HL2.out pg; rw [hr10] at this; exact this
            subst he10
            have hg9 := HGC.out w8 T8 D AD _ _ Z8.out p0
            have hg9' : Calls Tryd.prog 18 #[.pointer (some ⟨D, 0, none⟩), .int .i64 0, .int .i64 p0, .int .i64 (sb.size : Int)] w8 (GetEnd (s9, l9, 12) w8) := by rw [← hr9]; exact hg9
            have HG9 := Lib.hid hg9'
            have HG10 := Lib.hid (fun w9 (b9 : Below w8.heap.size w8 w9) => (by
              have := HGC.out w9 T8 D AD _ _ (Z8.out.below b9) 1
              rw [← hr10]
              exact this : Calls Tryd.prog 18 #[.pointer (some ⟨D, 0, none⟩), .int .i64 0, .int .i64 1, .int .i64 (sb.size : Int)] w9 (GetEnd (s10, l10, 12) w9)))
            have HB8 := Lib.hid Z8.out.bel
            clear hr9 hr10 hg9 hg9'
            go_wp2_with (first
              | (go_at_call 18; (with_reducible refine HG9.out.mono ?_); rintro e w9 ⟨A9, n9, c9, rfl, _, b9⟩; have B9 := Lib.hid b9; clear b9)
              | (go_at_call 18; (with_reducible refine (HG10.out _ B9.out).mono ?_); rintro e w10 ⟨A10, n10, c10, rfl, _, b10⟩; have B10 := Lib.hid (below_step HB8.out (below_step B9.out b10)); clear b10))
            go_ret
            exact ⟨rfl, B10.out⟩
      · have hp : putN s l = ([], 1) := by unfold putN; rw [if_neg hg]
        rw [hp] at HPU
        clear hse hsl h ht hs hn hp hg
        go_enter Tryd.func5, Tryd.ntmps5
        go_wp2_with (first
          | (go_at_call 8; (with_reducible refine HAW.out.mono ?_); rintro e w1 ⟨rfl, b1⟩; have B1 := Lib.hid b1; clear b1)
          | (go_at_call 9; (with_reducible refine (HPU.out _ B1.out).mono ?_); rintro e w2 ⟨A2, n2, c2, q, rfl, hC, hq, _, b2, _⟩; have hn2 : n2 = 0 := (by have h1 := congrArg List.length hq; rw [lq_len, ← hC.len] at h1; exact h1); subst hn2; have B2 := Lib.hid (below_step B1.out b2); clear hC hq b2))
        go_ret
        exact ⟨rfl, B2.out⟩

end Go.Proofs.YtdoabcbembinjaaDoor
end
