/- The walk of the law OctetBack. -/
import Derived.Test.YtcobakgiahkeaaaBackm
import Derived.Test.YtcobakgiahkeaaaOwn
namespace Go.Proofs.Ytcobakgiahkeaaa
open Go.RowKit
set_option linter.unusedVariables false

/-- A slice of numbers of 64 bits that came in. -/
structure Nums (w : World) (A : Option Addr) (n : Nat) (xs : List Nat) : Prop where
  len : n = xs.length
  cells : 0 < n → ∃ b off, A = some ⟨b, off, none⟩ ∧ b < w.heap.size ∧ ∀ (i x : Nat), xs[i]? = some x → w.cell? ⟨b, off + i, none⟩ = some (.int .u64 (x : Int))
  most : ∀ x ∈ xs, x < 18446744073709551616

/-- The law's own pairs: each number, cut to so many bytes. -/
def cut8 (x : Nat) (d : UInt8) : Nat × Nat := (x / 256 ^ (8 - (d.toNat % 8 + 1)), d.toNat % 8 + 1)
def pairs (xs : List Nat) (ds : List UInt8) : List (Nat × Nat) := List.zipWith cut8 xs ds
theorem pairs_len (xs : List Nat) (ds : List UInt8) (h : xs.length ≤ ds.length) : (pairs xs ds).length = xs.length := by simp [pairs]; omega
theorem pairs_at (xs : List Nat) (ds : List UInt8) (i x : Nat) (d : UInt8) (hx : xs[i]? = some x) (hd : ds[i]? = some d) : (pairs xs ds)[i]? = some (cut8 x d) := by
  simp [pairs, List.getElem?_zipWith, hx, hd]
theorem pairs_ok (xs : List Nat) (ds : List UInt8) : ∀ p ∈ pairs xs ds, p.2 ≤ 8 := by
  intro p hp
  obtain ⟨i, hi, rfl⟩ := List.getElem_of_mem hp
  simp [pairs, cut8]
  omega
theorem cut8_lt (x : Nat) (d : UInt8) (hx : x < 18446744073709551616) : (cut8 x d).1 < 256 ^ (cut8 x d).2 := by
  unfold cut8
  have h := d.toNat % 8
  have h8 : d.toNat % 8 < 8 := Nat.mod_lt _ (by omega)
  rw [Nat.div_lt_iff_lt_mul (Nat.pow_pos (by omega)), ← Nat.pow_add]
  have e : d.toNat % 8 + 1 + (8 - (d.toNat % 8 + 1)) = 8 := by omega
  rw [e]
  exact hx

/-- Two owned rows of different types lie in different blocks. -/
theorem own_apart {w : World} {b b' : Nat} {e e' : TypeId} {s s' n n' : Nat} {v v' : Value} {xs xs' : List Value} (h : w.ownsRow b e s v n xs) (h' : w.ownsRow b' e' s' v' n' xs') (hne : e ≠ e') : v.ownBlock = none ∨ v.ownBlock ≠ v'.ownBlock := by
  rcases h.2 with ⟨rfl, _⟩ | ⟨g, cap, cur, rfl, _, hg, _⟩
  · exact .inl rfl
  · right
    rcases h'.2 with ⟨rfl, _⟩ | ⟨g', cap', cur', rfl, _, hg', _⟩
    · simp [Value.ownBlock]
    · simp only [Value.ownBlock]
      intro he
      injection he with he
      exact Has.apart (w := w) (g := g) (t := e) (cs := cur) hg (g' := g') (t' := e') (cs' := cur') hg' hne he
theorem own_below {w w' : World} {b : Nat} {e : TypeId} {s n : Nat} {v : Value} {xs : List Value} (h : w.ownsRow b e s v n xs) (hb : Below w.heap.size w w') : w'.ownsRow b e s v n xs :=
  h.kept (row := none) ⟨hb.os, hb.tape, hb.output, hb.size, fun k hk _ => hb.block k hk⟩ (by
    rcases v.ownBlock with _ | g
    · exact .inl rfl
    · exact .inr (by simp))
theorem below_own {B : Nat} {w0 w w' : World} {e : TypeId} {s n : Nat} {v : Value} {xs : List Value} (h : Below B w0 w) (hg : w.grownBy w' v.ownBlock) (ho : w.ownsRow B e s v n xs) (hB : B ≤ w.heap.size) : Below B w0 w' :=
  h.grown hg hB (fun k hk => (ho.lt k hk).1)

/-- What the first round is told. -/
def PutRel (w w0 : World) (ps : List (Nat × Nat)) (m : Nat) (vb vw i : Value) (wr : World) : Prop :=
  ∃ k : Nat, k ≤ m ∧ i = .int .i64 k ∧ wr.ownsRow w0.heap.size 5 1 vb (enc (ps.take k)).length ((enc (ps.take k)).map byteV) ∧ wr.ownsRow w0.heap.size 22 1 vw k ((ps.take k).map fun p => .int .u64 (p.1 : Int)) ∧ Below w0.heap.size w0 wr

theorem take_map_more (ps : List (Nat × Nat)) (k y nn : Nat) (h : ps[k]? = some (y, nn)) : (ps.take (k + 1)).map (fun p => Value.int .u64 (p.1 : Int)) = (ps.take k).map (fun p => Value.int .u64 (p.1 : Int)) ++ [.int .u64 (y : Int)] := by
  obtain ⟨hi, hv⟩ := List.getElem?_eq_some_iff.1 h
  rw [List.take_succ_eq_append_getElem hi, hv]
  simp

theorem own_slice_ {w : World} {B s : Nat} {e : TypeId} {v : Value} {n : Nat} {xs : List Value} (h : w.ownsRow B e s v n xs) : ∃ A c, v = .slice A n c ∧ n ≤ c ∧ c ≤ maxLen := by
  rcases h.2 with ⟨rfl, rfl⟩ | ⟨g, cap, cur, rfl, _, _, h1, h2, _⟩
  · exact ⟨none, 0, rfl, Nat.le_refl _, Nat.zero_le _⟩
  · exact ⟨_, cap, rfl, h1, h2⟩
theorem Take_n (A : Option Addr) (n c : Nat) (l : List UInt8) (w : World) (hn : n = l.length) (hl : l.length ≤ 1000000) (h : Reads w A (l.map byteV)) :
    Calls Try.prog 13 #[.slice A n c] w (Made w.heap.size l w) := by
  subst hn
  exact Take_any A c l w hl h
/-- One number more is taken. -/
theorem take_one (ps : List (Nat × Nat)) (k y nn : Nat) (z : Int) (ts : List UInt8) (base P : Nat) (h : ps[k]? = some (y, nn)) (h1 : 1 ≤ nn) (h8 : nn ≤ 8) (hy : y < 256 ^ nn) (hz : z = (nn : Int)) (wz : World) (hT : Tk wz base P (enc (ps.drop k) ++ ts) 0) :
    Calls Try.prog 14 #[.pointer (some ⟨P, 0, none⟩), .int .i64 z] wz (NumEnd base P wz y (enc (ps.drop (k + 1)) ++ ts) 0) := by
  subst hz
  have hc := tNum_any base P _ 0 nn wz hT
  rw [enc_drop ps k y nn h, List.append_assoc, stN_put y nn _ h1 h8 hy] at hc
  exact hc
theorem take_text (s : ByteArray) (base P : Nat) (hs : s.size ≤ 255) (wz : World) (hT : Tk wz base P (UInt8.ofNat s.size :: s.data.toList) 0) :
    Calls Try.prog 16 #[.pointer (some ⟨P, 0, none⟩)] wz fun e w' => e = .returned (.string s) ∧ Tk w' base P [] 0 ∧ wz.grownBy w' (some P) := by
  have hc := tText_any base P _ 0 wz hT
  have h := stT_put s.data.toList hs
  have e : UInt8.ofNat s.size :: s.data.toList = textS s.data.toList := rfl
  rw [e, h] at hc
  exact hc
theorem take_cut (s : ByteArray) (base P : Nat) (hs : s.size ≤ 255) (wz : World) (hT : Tk wz base P (UInt8.ofNat s.size :: s.data.toList).dropLast 0) :
    Calls Try.prog 16 #[.pointer (some ⟨P, 0, none⟩)] wz fun e w' => (∃ v, e = .returned (.string v)) ∧ (∃ l, Tk w' base P l 10) ∧ wz.grownBy w' (some P) := by
  have hc := tText_any base P _ 0 wz hT
  have h := stT_cut s.data.toList hs
  have e : UInt8.ofNat s.size :: s.data.toList = textS s.data.toList := rfl
  rw [e, h] at hc
  exact hc.mono fun _ _ ⟨he, hT', hg⟩ => ⟨⟨_, he⟩, ⟨_, hT'⟩, hg⟩

theorem Reads.prefix_ {w : World} {A : Option Addr} {p q : List Value} (h : Reads w A (p ++ q)) : Reads w A p := fun hx => by
  obtain ⟨g, off, hA, hc⟩ := h (by simp; omega)
  refine ⟨g, off, hA, fun j u hj => hc j u ?_⟩
  rw [List.getElem?_append_left (List.getElem?_eq_some_iff.1 hj).1]
  exact hj
theorem reads_cut {w : World} {A : Option Addr} {a : List UInt8} {x : UInt8} {t : List UInt8} (h : Reads w A ((a ++ x :: t).map byteV)) : Reads w A ((a ++ (x :: t).dropLast).map byteV) := by
  have e : a ++ x :: t = (a ++ (x :: t).dropLast) ++ [(x :: t).getLast (by simp)] := by
    rw [List.append_assoc, List.dropLast_concat_getLast]
  rw [e, List.map_append] at h
  exact h.prefix_

theorem done10 {base P : Nat} {l : List UInt8} {w : World} (h : Tk w base P l 10) : Calls Try.prog 21 #[.pointer (some ⟨P, 0, none⟩)] w fun e w' => e = .returned (.int .i64 10) ∧ w = w' := tDone_any h

theorem u64info : (Try.prog.info? 22).map (fun i => (i.zero, i.size, i.bytes)) = some (some (.int .u64 0), 1, 8) := by kernel_rfl

set_option maxRecDepth 100000 in
set_option maxHeartbeats 8000000 in
theorem walkBack (A A2 : Option Addr) (m c n c2 : Nat) (xs : List Nat) (ds : List UInt8) (s : ByteArray) (w : World) (hl : Nums w A m xs) (hz : Arg w A2 n c2 ds) (hs : s.size ≤ maxLen) :
    Calls Try.prog 5 #[.slice A m c, .slice A2 n c2, .string s] w fun e w' => e = .returned (.bool true) ∧ Below w.heap.size w w' := by
  unfold maxLen at hs
  by_cases hg : m ≤ 30 ∧ m ≤ n ∧ s.size ≤ 255
  · obtain ⟨h1, h2, h3⟩ := hg
    have HL := Lib.hid hl
    have HZ := Lib.hid hz
    clear hl hz
    have e1 : decide (30 < (m : Int)) = false := by simp; omega
    have e2 : decide (n < m) = false := by simp; omega
    have e3 : decide (255 < (s.size : Int)) = false := by simp; omega
    obtain ⟨i0, hi, hz0, hz1, hz2⟩ := info_parts u8info
    obtain ⟨j0, hj, jz0, jz1, jz2⟩ := info_parts u64info
    obtain ⟨ps, hps⟩ : ∃ ps, ps = pairs xs ds := ⟨_, rfl⟩
    have HP := Lib.hid hps
    clear hps
    have hpl : Hid (ps.length = m) := by
      have := HP.out
      subst this
      exact (pairs_len xs ds (by rw [← HL.out.len, ← HZ.out.len]; exact h2)).trans HL.out.len.symm
    go_enter Try.func5, Try.ntmps5
    go_wp2_with (go_at_call 8; refine (awake_any _).mono ?_; rintro e w0 ⟨rfl, h0⟩; have B0 := Lib.hid h0; clear h0)
    go_loopw [8, 9, 10] (fun vb vw i wr => PutRel w w0 ps m vb vw i wr) (fun _ _ i _ => m - (intOf i).toNat)
    case atStart => exact ⟨0, Nat.zero_le _, rfl, World.ownsRow_nil _ _ _ _, World.ownsRow_nil _ _ _ _, Below.refl _ _⟩
    case round =>
      obtain ⟨k, hk, rfl, ho1, ho2, hb1⟩ := hrel
      have O1 := Lib.hid ho1
      have O2 := Lib.hid ho2
      have B1 := Lib.hid hb1
      clear ho1 ho2 hb1
      by_cases hlt : k < m
      · obtain ⟨x, hx⟩ : ∃ x, xs[k]? = some x := ⟨_, List.getElem?_eq_getElem (by have := HL.out.len; omega)⟩
        obtain ⟨d, hd⟩ : ∃ d, ds[k]? = some d := ⟨_, List.getElem?_eq_getElem (by have := HZ.out.len; omega)⟩
        have hxm := HL.out.most x (List.mem_of_getElem? hx)
        have hpk : Hid (ps[k]? = some (cut8 x d)) := by have := HP.out; subst this; exact pairs_at xs ds k x d hx hd
        obtain ⟨b, off, hA, hbl, hc⟩ := HL.out.cells (by omega)
        have hcx : wr.cell? ⟨b, off + k, none⟩ = some (.int .u64 (x : Int)) := ((B0.out.trans (B1.out.mono B0.out.size)).cell (p := ⟨b, off + k, none⟩) hbl).trans (hc k x hx)
        obtain ⟨b2, off2, hA2, hc2⟩ := HZ.out.reads (by have := HZ.out.len; simp; omega)
        have hbl2 := HZ.out.old (by omega) _ hA2
        have hcd : wr.cell? ⟨b2, off2 + k, none⟩ = some (.int .u8 (d.toNat : Int)) := ((B0.out.trans (B1.out.mono B0.out.size)).cell (p := ⟨b2, off2 + k, none⟩) hbl2).trans (hc2 k (byteV d) (by simp [hd]))
        have hdl := d.toNat_lt
        clear hc hc2 hx hd
        subst hA hA2
        obtain ⟨wo, hwo⟩ : ∃ wo : World, wo = wr := ⟨_, rfl⟩
        subst hwo
        obtain ⟨nn, hnn⟩ : ∃ nn : Nat, nn = d.toNat % 8 + 1 := ⟨_, rfl⟩
        have h1n : 1 ≤ nn := by omega
        have hn8 : nn ≤ 8 := by omega
        have HNN := Lib.hid hnn
        have hcast : Hid ((d.toNat : Int) % 8 + 1 = (nn : Int)) := Lib.hid (by have := HNN.out; omega)
        clear hnn
        go_wp2
        rw [hcast.out]
        go_loop [12, 13] (fun v i => ∃ j : Nat, nn ≤ j ∧ j ≤ 8 ∧ i = .int .i64 j ∧ v = .int .u64 ((x / 256 ^ (j - nn) : Nat) : Int)) (fun _ i => 8 - (intOf i).toNat)
        case atStart => exact ⟨nn, Nat.le_refl _, hn8, rfl, by simp⟩
        case round =>
          obtain ⟨j, hj1, hj8, rfl, rfl⟩ := hrel
          have hle : x / 256 ^ (j - nn) ≤ x := Nat.div_le_self _ _
          have hnext : Hid (x / 256 ^ (j + 1 - nn) = x / 256 ^ (j - nn) / 256) := by
            rw [Nat.div_div_eq_div_mul, ← Nat.pow_succ]
            congr 2
            omega
          generalize hy : x / 256 ^ (j - nn) = y at hle hnext
          have HY := Lib.hid hy
          clear hy
          by_cases hjl : j < 8
          · go_wp2
            go_round
            case rel => exact ⟨j + 1, by omega, by omega, by go_num, u64_eq (by rw [hnext.out]; rfl)⟩
            case measure => simp [intOf]; omega
          · have hj : j = 8 := by omega
            subst hj
            have hcut : Hid (cut8 x d = (y, nn)) := by
              have h1 := HY.out
              have h2 := HNN.out
              subst h2
              unfold cut8
              rw [h1]
              exact rfl
            have hlt8 := cut8_lt x d hxm
            have hpk2 := hpk.out
            rw [hcut.out] at hlt8 hpk2
            have HPK := Lib.hid hpk2
            have HE := Lib.hid (enc_take ps k y nn hpk2)
            have HEL : Hid ((enc (ps.take k)).length ≤ 240) := Lib.hid (by
              have h := enc_len (ps.take k) (fun p hp => by have := HP.out; subst this; exact pairs_ok xs ds p (List.mem_of_mem_take hp))
              have h2 : (ps.take k).length ≤ 30 := by simp; omega
              omega)
            have HLT : Hid (y < 256 ^ nn) := Lib.hid hlt8
            clear hpk2 hlt8 hnext
            have LB : Hid (w0.heap.size ≤ wo.heap.size) := B1.out.size
            go_wp2_with (first
              | (go_at_call 9; refine (Num_fresh y nn wo (by omega) h1n hn8).mono ?_; rintro e w2 ⟨A5, c5, rfl, _, _, h5, h6⟩; have R5 := Lib.hid h5; have B5 := Lib.hid h6; have O15 := Lib.hid (own_below O1.out h6); have O25 := Lib.hid (own_below O2.out h6); clear h5 h6)
              | (at_builtin; refine wpList_append_bytes rfl _ _ 24 rfl w0.heap.size 5 i0 Try.underlying24 hi hz0 hz1 hz2 _ (enc (ps.take k)).length _ rfl O15.out A5 _ c5 (numB y nn) rfl rfl (fun h => absurd h (R5.out.some_ (by simp [numB_len]; omega))) R5.out.reads (by have := HEL.out; rw [numB_len]; omega) (Nat.le_trans LB.out B5.out.size) ?_; intro v3 w3 h7 h8; rw [← List.length_append, ← List.map_append, ← HE.out] at h7; have O13 := Lib.hid h7; have O23 := Lib.hid (O25.out.kept h8 (own_apart O25.out O15.out (by decide))); have B3 := Lib.hid (below_own (B1.out.trans (B5.out.mono LB.out)) h8 O15.out (Nat.le_trans LB.out B5.out.size)); clear h7 h8)
              | (at_builtin; refine wpList_append_own _ rfl _ _ 44 rfl w0.heap.size 22 j0 (.int .u64 0) 1 8 Try.underlying44 hj jz0 jz1 jz2 rfl (by decide) _ k _ rfl (O23.out.alloc _) ⟨w3.heap.size, 0, none⟩ 1 1 [.int .u64 (y : Int)] rfl rfl ?_ ?_ ?_ ?_ ?_ ?_; (exact cell_one_new _ _ _); (intro u hu; simp at hu; subst hu; rfl); (unfold maxLen; omega); (omega); (have hq := B3.out.size; simp; omega); intro v4 w4 h7 h8 h9; have O24 := Lib.hid h7; have O14 := Lib.hid ((O13.out.alloc (.cells #[.int .u64 (y : Int)] 22)).kept h8 (own_apart (O13.out.alloc (.cells #[.int .u64 (y : Int)] 22)) (O23.out.alloc (.cells #[.int .u64 (y : Int)] 22)) (by decide))); have B4 := Lib.hid (below_own (B3.out.alloc B3.out.size (.cells #[.int .u64 (y : Int)] 22)) h8 (O23.out.alloc (.cells #[.int .u64 (y : Int)] 22)) (by have := B3.out.size; simp; omega)); clear h7 h8 h9))
            go_roundw
            case rel =>
              refine ⟨k + 1, by omega, by go_num, O14.out, ?_, B4.out⟩
              have h := O24.out
              rw [take_map_more ps k y nn HPK.out]
              exact h
            case measure => simp [intOf]; omega
      · obtain ⟨w3, hw3⟩ : ∃ w3 : World, w3 = wr := ⟨_, rfl⟩
        subst hw3
        have hkm : k = m := by omega
        subst hkm
        have hall : ps.take k = ps := List.take_of_length_le (by have := hpl.out; omega)
        rw [hall] at O1 O2
        clear hall
        have HEL : Hid ((enc ps).length ≤ 240) := Lib.hid (by
          have h := enc_len ps (fun p hp => by have := HP.out; subst this; exact pairs_ok xs ds p hp)
          have h2 := hpl.out
          omega)
        have LB : Hid (w0.heap.size ≤ w3.heap.size) := B1.out.size
        have HLE : Hid ((enc ps).length + (s.size + 1) = (enc ps ++ UInt8.ofNat s.size :: s.data.toList).length) := Lib.hid (by rw [List.length_append]; exact rfl)
        have HLB : Hid ((enc ps ++ UInt8.ofNat s.size :: s.data.toList).length ≤ 1000000) := Lib.hid (by rw [← HLE.out]; have := HEL.out; omega)
        obtain ⟨Aw, cw, hvw, _, _⟩ := own_slice_ O2.out
        subst hvw
        go_wp2_with (first
          | (go_at_call 11; refine (Text_short s w3 h3).mono ?_; rintro e w4 ⟨At, ct, rfl, _, h5, h6⟩; have R4 := Lib.hid h5; have B4 := Lib.hid h6; have O14 := Lib.hid (own_below O1.out h6); have O24 := Lib.hid (own_below O2.out h6); clear h5 h6)
          | (at_builtin; refine wpList_append_bytes rfl _ _ 24 rfl w0.heap.size 5 i0 Try.underlying24 hi hz0 hz1 hz2 _ (enc ps).length _ rfl O14.out At (s.size + 1) ct (UInt8.ofNat s.size :: s.data.toList) rfl rfl (fun h => absurd h (R4.out.some_ (by simp))) R4.out.reads (by have := HEL.out; omega) (Nat.le_trans LB.out B4.out.size) ?_; intro v5 w5 h7 h8; obtain ⟨Ab, cb, rfl, _, _⟩ := own_slice_ h7; rw [← List.map_append] at h7; have RB := Lib.hid (Row.of_own h7); have RW := Lib.hid (Row.of_own (O24.out.kept h8 (own_apart O24.out O14.out (by decide)))); have B5 := Lib.hid (below_own (B1.out.trans (B4.out.mono LB.out)) h8 O14.out (Nat.le_trans LB.out B4.out.size)); clear h7 h8)
          | (go_at_call 13; refine (Take_n Ab _ cb (enc ps ++ UInt8.ofNat s.size :: s.data.toList) w5 HLE.out HLB.out RB.out.reads).mono ?_; rintro e w6 ⟨Pt, rfl, h5, h6⟩; have T6 := Lib.hid h5; have B6 := Lib.hid h6; clear h5 h6))
        have B05 : Hid (Below w.heap.size w w5) := Lib.hid (B0.out.trans (B5.out.mono B0.out.size))
        have LW : Hid (w.heap.size ≤ w5.heap.size) := Lib.hid B05.out.size
        go_loopw [15] (fun i wr => ∃ k3 : Nat, k3 ≤ k ∧ i = .int .i64 k3 ∧ Tk wr w5.heap.size Pt (enc (ps.drop k3) ++ UInt8.ofNat s.size :: s.data.toList) 0 ∧ Below w5.heap.size w5 wr) (fun i _ => k - (intOf i).toNat)
        case atStart => exact ⟨0, Nat.zero_le _, rfl, T6.out, B6.out⟩
        case round =>
          obtain ⟨k3, hk3, rfl, hT, hB⟩ := hrel
          have TR := Lib.hid hT
          have BR := Lib.hid hB
          clear hT hB
          by_cases hl3 : k3 < k
          · obtain ⟨x, hx⟩ : ∃ x, xs[k3]? = some x := ⟨_, List.getElem?_eq_getElem (by have := HL.out.len; omega)⟩
            obtain ⟨d, hd⟩ : ∃ d, ds[k3]? = some d := ⟨_, List.getElem?_eq_getElem (by have := HZ.out.len; omega)⟩
            have hxm := HL.out.most x (List.mem_of_getElem? hx)
            have hpk : ps[k3]? = some (cut8 x d) := by have := HP.out; subst this; exact pairs_at xs ds k3 x d hx hd
            have hlt8 := cut8_lt x d hxm
            have hcd2 : (cut8 x d).2 = d.toNat % 8 + 1 := rfl
            obtain ⟨y, nn, hcut⟩ : ∃ y nn, cut8 x d = (y, nn) := ⟨_, _, rfl⟩
            rw [hcut] at hpk hlt8 hcd2
            simp only at hlt8 hcd2
            have hzz : IntKind.i64.wrap (IntKind.i64.wrap ((d.toNat : Int).tmod 8) + 1) = (nn : Int) := by
              have hdl := d.toNat_lt
              rw [Int.tmod_eq_emod_of_nonneg (by omega), IntWalk.i64_in ((d.toNat : Int) % 8) (by omega), IntWalk.i64_in _ (by omega)]
              omega
            have HN : Hid (∀ wz, Tk wz w5.heap.size Pt (enc (ps.drop k3) ++ UInt8.ofNat s.size :: s.data.toList) 0 → Calls Try.prog 14 #[.pointer (some ⟨Pt, 0, none⟩), .int .i64 (IntKind.i64.wrap (IntKind.i64.wrap ((d.toNat : Int).tmod 8) + 1))] wz (NumEnd w5.heap.size Pt wz y (enc (ps.drop (k3 + 1)) ++ UInt8.ofNat s.size :: s.data.toList) 0)) := Lib.hid (fun wz hz => take_one ps k3 y nn _ _ _ _ hpk (by omega) (by omega) hlt8 hzz wz hz)
            obtain ⟨b2, off2, hA2, hc2⟩ := HZ.out.reads (by have := HZ.out.len; simp; omega)
            have hbl2 := HZ.out.old (by omega) _ hA2
            have HCD : Hid (∀ wz, Below w5.heap.size w5 wz → wz.cell? ⟨b2, off2 + k3, none⟩ = some (.int .u8 (d.toNat : Int))) := Lib.hid (fun wz hz => ((B05.out.trans (hz.mono LW.out)).cell (p := ⟨b2, off2 + k3, none⟩) hbl2).trans (hc2 k3 (byteV d) (by simp [hd])))
            obtain ⟨gw, offw, csw, hAw, _, hgw, hcw⟩ := RW.out (by have := hpl.out; simp; omega)
            have HCW : Hid (∀ wz, Below w5.heap.size w5 wz → wz.cell? ⟨gw, offw + k3, none⟩ = some (.int .u64 (y : Int))) := Lib.hid (fun wz hz => by
              rw [(hgw.below hz hgw.lt).cell]
              exact hcw k3 _ (by simp [hpk]))
            have hdl := d.toNat_lt
            have hcd := HCD.out wr BR.out
            have hcy := HCW.out wr BR.out
            have hyb : y < 18446744073709551616 := by
              have h1 : 256 ^ nn ≤ 256 ^ 8 := Nat.pow_le_pow_right (by omega) (by omega)
              omega
            subst hA2 hAw
            clear hc2 hx hd hpk hlt8 hcd2 hcut hgw hcw hzz
            go_wp2
            replace TR := Lib.hid TR.out.drew
            replace BR := Lib.hid BR.out.drew
            have i0' : (0 : Int) ≤ (k3 : Int) := by omega
            have i1' : (k3 : Int) < (n : Int) := by omega
            have i2' : (k3 : Int) < (k : Int) := by omega
            go_region_held3 (fun w' => w'.cell? ⟨b2, off2 + k3, none⟩ = some (.int .u8 (d.toNat : Int)) ∧ w'.cell? ⟨gw, offw + k3, none⟩ = some (.int .u64 (y : Int))) (first | go_keep | exact ⟨hcd8, hcy8⟩) (first | (go_at_call 14; refine (HN.out _ TR.out).mono ?_; rintro e w8 ⟨rfl, h5, h6⟩; have T8 := Lib.hid h5; have B8 := Lib.hid (BR.out.trans (below_only h6 h5.base_le BR.out.size)); have hcd8 := HCD.out w8 B8.out; have hcy8 := HCW.out w8 B8.out; clear h5 h6))
            go_wp2
            go_roundw
            case rel => exact ⟨k3 + 1, by omega, by go_num, T8.out, B8.out⟩
            case measure => simp [intOf]; omega
          · obtain ⟨w9, hw9⟩ : ∃ w9 : World, w9 = wr := ⟨_, rfl⟩
            subst hw9
            have hd0 : enc (ps.drop k3) ++ UInt8.ofNat s.size :: s.data.toList = UInt8.ofNat s.size :: s.data.toList := by
              rw [List.drop_eq_nil_of_le (by have := hpl.out; omega)]
              rfl
            rw [hd0] at TR
            clear hd0
            have hel : (enc ps).length ≤ 240 := HEL.out
            have HLC : Hid ((enc ps).length + s.size = (enc ps ++ (UInt8.ofNat s.size :: s.data.toList).dropLast).length) := Lib.hid (by rw [List.length_append, List.length_dropLast]; exact rfl)
            have HLD : Hid ((enc ps ++ (UInt8.ofNat s.size :: s.data.toList).dropLast).length ≤ 1000000) := Lib.hid (by rw [← HLC.out]; omega)
            have HT2 := Lib.hid (take_text s w5.heap.size Pt h3)
            go_wp2_with (first
              | (go_at_call 16; refine (HT2.out _ TR.out).mono ?_; rintro e w10 ⟨rfl, h5, h6⟩; have T10 := Lib.hid h5; have B10 := Lib.hid (BR.out.trans (below_only h6 h5.base_le BR.out.size)); clear h5 h6)
              | (go_at_call 21; refine (tDone_any T10.out).mono ?_; rintro e w' ⟨rfl, rfl⟩)
              | (go_at_call 13; refine (Take_n Ab ((enc ps).length + s.size) cb (enc ps ++ (UInt8.ofNat s.size :: s.data.toList).dropLast) w10 HLC.out HLD.out (reads_cut (RB.out.below B10.out).reads)).mono ?_; rintro e w11 ⟨Pu, rfl, h5, h6⟩; have T11 := Lib.hid h5; have B11 := Lib.hid h6; clear h5 h6))
            have LW2 : Hid (w5.heap.size ≤ w10.heap.size) := Lib.hid B10.out.size
            go_loopw [17] (fun i wr => ∃ k4 : Nat, k4 ≤ k ∧ i = .int .i64 k4 ∧ Tk wr w10.heap.size Pu (enc (ps.drop k4) ++ (UInt8.ofNat s.size :: s.data.toList).dropLast) 0 ∧ Below w10.heap.size w10 wr) (fun i _ => k - (intOf i).toNat)
            case atStart => exact ⟨0, Nat.zero_le _, rfl, T11.out, B11.out⟩
            case round =>
              obtain ⟨k4, hk4, rfl, hT, hB⟩ := hrel
              have TS := Lib.hid hT
              have BS := Lib.hid hB
              clear hT hB
              by_cases hl4 : k4 < k
              · obtain ⟨x, hx⟩ : ∃ x, xs[k4]? = some x := ⟨_, List.getElem?_eq_getElem (by have := HL.out.len; omega)⟩
                obtain ⟨d, hd⟩ : ∃ d, ds[k4]? = some d := ⟨_, List.getElem?_eq_getElem (by have := HZ.out.len; omega)⟩
                have hxm := HL.out.most x (List.mem_of_getElem? hx)
                have hpk : ps[k4]? = some (cut8 x d) := by have := HP.out; subst this; exact pairs_at xs ds k4 x d hx hd
                have hlt8 := cut8_lt x d hxm
                have hcd2 : (cut8 x d).2 = d.toNat % 8 + 1 := rfl
                obtain ⟨y, nn, hcut⟩ : ∃ y nn, cut8 x d = (y, nn) := ⟨_, _, rfl⟩
                rw [hcut] at hpk hlt8 hcd2
                simp only at hlt8 hcd2
                have HN : Hid (∀ wz, Tk wz w10.heap.size Pu (enc (ps.drop k4) ++ (UInt8.ofNat s.size :: s.data.toList).dropLast) 0 → Calls Try.prog 14 #[.pointer (some ⟨Pu, 0, none⟩), .int .i64 ((d.toNat : Int) % 8 + 1)] wz (NumEnd w10.heap.size Pu wz y (enc (ps.drop (k4 + 1)) ++ (UInt8.ofNat s.size :: s.data.toList).dropLast) 0)) := Lib.hid (fun wz hz => take_one ps k4 y nn _ _ _ _ hpk (by omega) (by omega) hlt8 (by omega) wz hz)
                obtain ⟨b2, off2, hA2, hc2⟩ := HZ.out.reads (by have := HZ.out.len; simp; omega)
                have hbl2 := HZ.out.old (by omega) _ hA2
                have hcd : wr.cell? ⟨b2, off2 + k4, none⟩ = some (.int .u8 (d.toNat : Int)) := (((B05.out.trans (B10.out.mono LW.out)).trans (BS.out.mono (Nat.le_trans LW.out LW2.out))).cell (p := ⟨b2, off2 + k4, none⟩) hbl2).trans (hc2 k4 (byteV d) (by simp [hd]))
                have hdl := d.toNat_lt
                subst hA2
                clear hc2 hx hd hpk hlt8 hcd2 hcut
                go_wp2_with (go_at_call 14; refine (HN.out _ TS.out).mono ?_; rintro e w12 ⟨rfl, h5, h6⟩; have T12 := Lib.hid h5; have B12 := Lib.hid (BS.out.trans (below_only h6 h5.base_le BS.out.size)); clear h5 h6)
                go_roundw
                case rel => exact ⟨k4 + 1, by omega, by go_num, T12.out, B12.out⟩
                case measure => simp [intOf]; omega
              · obtain ⟨w13, hw13⟩ : ∃ w13 : World, w13 = wr := ⟨_, rfl⟩
                subst hw13
                have hd0 : enc (ps.drop k4) ++ (UInt8.ofNat s.size :: s.data.toList).dropLast = (UInt8.ofNat s.size :: s.data.toList).dropLast := by
                  rw [List.drop_eq_nil_of_le (by have := hpl.out; omega)]
                  rfl
                rw [hd0] at TS
                clear hd0
                have HT3 := Lib.hid (take_cut s w10.heap.size Pu h3)
                go_wp2_with (first
                  | (go_at_call 16; refine (HT3.out _ TS.out).mono ?_; rintro e w14 ⟨⟨v14, rfl⟩, ⟨l14, h5⟩, h6⟩; have T14 := Lib.hid h5; have B14 := Lib.hid (BS.out.trans (below_only h6 h5.base_le BS.out.size)); clear h5 h6)
                  | (go_at_call 21; refine (done10 T14.out).mono ?_; rintro e w' ⟨rfl, rfl⟩))
                go_ret
                exact ⟨rfl, ((B05.out.trans (B10.out.mono LW.out)).trans (B14.out.mono (Nat.le_trans LW.out LW2.out)))⟩
  · clear hl hz
    by_cases h1 : m ≤ 30
    · have e1 : decide (30 < (m : Int)) = false := by simp; omega
      by_cases h2 : m ≤ n
      · have e2 : decide (n < m) = false := by simp; omega
        have e3 : decide (255 < (s.size : Int)) = true := by simp; omega
        go_enter Try.func5, Try.ntmps5
        go_wp2_with (go_at_call 8; refine (awake_any _).mono ?_; rintro e w0 ⟨rfl, h0⟩; have B0 := Lib.hid h0; clear h0)
        go_ret
        exact ⟨rfl, B0.out⟩
      · have e2 : decide (n < m) = true := by simp; omega
        go_enter Try.func5, Try.ntmps5
        go_wp2_with (go_at_call 8; refine (awake_any _).mono ?_; rintro e w0 ⟨rfl, h0⟩; have B0 := Lib.hid h0; clear h0)
        go_ret
        exact ⟨rfl, B0.out⟩
    · have e1 : decide (30 < (m : Int)) = true := by simp; omega
      go_enter Try.func5, Try.ntmps5
      go_wp2_with (go_at_call 8; refine (awake_any _).mono ?_; rintro e w0 ⟨rfl, h0⟩; have B0 := Lib.hid h0; clear h0)
      go_ret
      exact ⟨rfl, B0.out⟩

end Go.Proofs.Ytcobakgiahkeaaa
