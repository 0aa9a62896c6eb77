/- The walk of the law CrcTurns. -/
import Derived.Test.YthpmkpagjbkcjaaDoorOpens
import Derived.Laws.CopyOwn
namespace Go.Proofs.YthpmkpagjbkcjaaDoor
open Go.RowKit
set_option linter.unusedVariables false

/-- The bits of t below i, and one more. -/
theorem low_more (t i : Nat) : t % 2 ^ (i + 1) = t % 2 ^ i + 2 ^ i * (t / 2 ^ i % 2) := Nat.mod_pow_succ
theorem xor_high (a i : Nat) (h : a < 2 ^ i) : a ^^^ 2 ^ i = a + 2 ^ i := by
  have h1 := Nat.two_pow_add_eq_or_of_lt (b := a) (i := i) h 1
  rw [Nat.mul_one] at h1
  rw [Nat.add_comm, h1]
  apply Nat.eq_of_testBit_eq
  intro j
  rw [Nat.testBit_xor, Nat.testBit_or, Nat.testBit_two_pow]
  by_cases hj : i = j
  · subst hj
    simp [Nat.testBit_lt_two_pow h]
  · simp [hj]
theorem pow_xor (k a b : Nat) : 2 ^ k * (a ^^^ b) = 2 ^ k * a ^^^ 2 ^ k * b := by
  have := Nat.shiftLeft_xor_distrib (a := a) (b := b) (i := k)
  simp only [Nat.shiftLeft_eq] at this
  rw [Nat.mul_comm, Nat.mul_comm (2 ^ k) a, Nat.mul_comm (2 ^ k) b]
  exact this

theorem splice_all {α : Type} (L cs : List α) (h : L.length = cs.length) : splice L 0 cs = cs := by
  unfold splice
  rw [List.take_zero, List.nil_append, Nat.zero_add, ← h, List.drop_length, List.append_nil]
theorem u8_eq {a b : Int} (h : a = b) : Value.int .u8 a = .int .u8 b := by rw [h]
theorem toNat_small (p : Nat) (h : p ≤ 128) : (UInt8.ofNat p).toNat = p := by simp; omega
theorem pow_split (k : Nat) : 2 ^ (k % 8) * 256 ^ (k / 8) = 2 ^ k := by
  have e : (256 : Nat) = 2 ^ 8 := by decide
  rw [e, ← Nat.pow_mul, ← Nat.pow_add]
  congr 1
  omega
theorem reads_tag {w : World} {A : Option Addr} {l : List UInt8} (h : Reads w A ((tagB l).map byteV)) : Reads w A ((numB (ofN l) 4).map byteV) := fun hx => by
  obtain ⟨g, off, hA, hc⟩ := h (by simp [tagB_len])
  refine ⟨g, off, hA, fun j u hj => hc j u ?_⟩
  unfold tagB
  rw [List.map_append, List.getElem?_append_left (List.getElem?_eq_some_iff.1 hj).1]
  exact hj
theorem below_own_ {B : Nat} {w0 w w' : World} {e : TypeId} {s n : Nat} {v : Value} {xs : List Value} (h : Below B w0 w) (hg : w.grownBy w' v.ownBlock) (ho : w.ownsRow B e s v n xs) (hB : B ≤ w.heap.size) : Below B w0 w' :=
  h.grown hg hB (fun k hk => (ho.lt k hk).1)
theorem u8size : (Tryd.prog.info? 5).map (·.size) = some 1 := by kernel_rfl
theorem made_list (w : World) (n : Nat) : (w.alloc (.cells (madeCells #[.int .u8 0] n) 5)).heap[w.heap.size]? = some (.cells (madeCells #[.int .u8 0] n).toList.toArray 5 (0, 0)) := by
  rw [Array.toArray_toList]
  exact heap_alloc_new w _

set_option maxRecDepth 100000 in
set_option maxHeartbeats 8000000 in
theorem walkTurns (A : Option Addr) (n c at_ turn : Nat) (l : List UInt8) (w : World) (htab : Tab w) (hb : Arg w A n c l) (ha : at_ < 65536) (ht : turn < 4294967296) :
    Calls Tryd.prog 5 #[.slice A n c, .int .u16 at_, .int .u32 turn] w fun e w' => e = .returned (.bool true) ∧ Below w.heap.size w w' := by
  have HTB := Lib.hid htab
  clear htab
  have hnl := hb.len
  subst hnl
  by_cases hg : 5 ≤ l.length ∧ l.length ≤ 2000 ∧ turn ≠ 0
  · obtain ⟨g1, g2, g3⟩ := hg
    have HA := Lib.hid hb
    have e1 : decide ((l.length : Int) < 5) = false := by simp; omega
    have e2 : decide (2000 < (l.length : Int)) = false := by simp; omega
    have e3 : ((turn : Int) == 0) = false := beq_false_of_ne (by omega)
    have HG3 := Lib.hid g3
    have HT := Lib.hid (fun w1 (h1 : Below w.heap.size w w1) => tag_n A c l w1 (HTB.out.below h1) (by omega) (hb.below h1))
    have hmk := make_bytes l.length (by omega)
    clear hb g3
    have HSRC : Hid (∀ w0, Below w.heap.size w w0 → ∃ ad, A = some ad ∧ ∀ j v, (l.map byteV)[j]? = some v → (w0.alloc (.cells (madeCells #[.int .u8 0] l.length) 5)).cell? (ad.add j) = some v) := Lib.hid (fun w0 hb0 => by
      obtain ⟨b, off, hA, hcl⟩ := (HA.out.below hb0).reads (by simp; omega)
      refine ⟨_, hA, fun j v hj => ?_⟩
      rw [add_plain]
      have := hcl j v hj
      exact (World.cell?_alloc_lt w0 _ _ (World.block_lt_of_cell? w0 _ this)).trans this)
    go_enter Tryd.func5, Tryd.ntmps5
    go_wp2_with (first
      | (go_at_call 8; refine (awake02_any _ HTB.out).mono ?_; rintro e w0 ⟨rfl, h0⟩; have B0 := Lib.hid h0; clear h0)
      | (refine wpList_copy_splice rfl (.tmp 44) (.tmp 45) 22 22 rfl 5 Tryd.underlying22 u8size (some ⟨w0.heap.size, 0, none⟩) A l.length l.length l.length c rfl rfl w0.heap.size 0 (madeCells #[.int .u8 0] l.length).toList 5 ?_ (l.map byteV) ?_ ?_ ?_ (one_byteV l) w0.heap.size w0 ((Below.refl _ _).alloc (Nat.le_refl _) _) (Nat.le_refl _) ?_; (exact made_list w0 _); (simp); (exact fun _ => ⟨rfl, HSRC.out w0 B0.out⟩); (simp [size_madeCells]); intro w1 h1 h2; have S1 := Lib.hid h1.out; have B1 := Lib.hid h2; clear h1 h2))
    obtain ⟨bit, hbit, hbl⟩ : ∃ bit : Nat, (at_ : Int) % (8 * (l.length : Int) - 32 + 1) = (bit : Int) ∧ bit + 32 ≤ 8 * l.length :=
      ⟨at_ % (8 * l.length - 31), by
        have e : (8 * (l.length : Int) - 32 + 1) = ((8 * l.length - 31 : Nat) : Int) := by omega
        rw [e]
        simp, by
        have := Nat.mod_lt at_ (show 0 < 8 * l.length - 31 by omega)
        omega⟩
    rw [hbit]
    clear hbit
    have LB : Hid (w0.heap.size ≤ w1.heap.size) := Lib.hid B1.out.size
    have S2 : Hid (Has w1 w0.heap.size 5 (l.map byteV).toArray) := Lib.hid (by
      have h := S1.out
      rw [splice_all _ _ (by simp [size_madeCells])] at h
      exact h)
    go_loopw [2, 10] (fun t i wr => ∃ (k : Nat) (cl : List UInt8), k ≤ 32 ∧ i = .int .i64 k ∧ t = .int .u32 ((turn / 2 ^ k : Nat) : Int) ∧ cl.length = l.length ∧ dg cl = dg l ^^^ 2 ^ bit * (turn % 2 ^ k) ∧ Has wr w0.heap.size 5 (cl.map byteV).toArray ∧ Below w0.heap.size w0 wr) (fun _ i _ => 32 - (intOf i).toNat)
    case atStart => exact ⟨0, l, Nat.zero_le _, rfl, u32_eq (by simp), rfl, by simp [Nat.mod_one], S2.out, B1.out⟩
    case round =>
      obtain ⟨k, cl, hk, rfl, rfl, hcl, hdg, hH, hB⟩ := hrel
      have HCL := Lib.hid hcl
      have HDG := Lib.hid hdg
      have HH := Lib.hid hH
      have HB := Lib.hid hB
      clear hcl hdg hH hB
      have HTN : Hid (turn / 2 ^ (k + 1) = turn / 2 ^ k / 2) := Lib.hid (by rw [Nat.pow_succ, Nat.div_div_eq_div_mul])
      have htl : turn / 2 ^ k < 4294967296 := Nat.lt_of_le_of_lt (Nat.div_le_self _ _) ht
      by_cases hlt : k < 32
      · have HLM := Lib.hid (low_more turn k)
        obtain ⟨tk, htk⟩ : ∃ tk, turn / 2 ^ k = tk := ⟨_, rfl⟩
        rw [htk] at htl HTN HLM ⊢
        clear htk
        by_cases hodd : tk % 2 = 1
        · have h1 : ((tk : Int) % 2 == 1) = true := by simp; omega
          have HO := Lib.hid hodd
          clear hodd
          obtain ⟨kk, hkk⟩ : ∃ kk : Nat, kk = bit + k := ⟨_, rfl⟩
          have hkc : (bit : Int) + (k : Int) = (kk : Int) := by omega
          have hkl : kk < 8 * l.length := by omega
          have HKK := Lib.hid hkk
          clear hkk
          go_wp2
          clear hkc
          obtain ⟨wo, hwo⟩ : ∃ wo : World, wo = wr := ⟨_, rfl⟩
          subst hwo
          go_loop [12, 13] (fun v i => ∃ j : Nat, j ≤ kk % 8 ∧ i = .int .i64 j ∧ v = .int .u8 ((2 ^ j : Nat) : Int)) (fun _ i => 8 - (intOf i).toNat)
          case atStart => exact ⟨0, Nat.zero_le _, rfl, rfl⟩
          case round =>
            obtain ⟨j, hj, rfl, rfl⟩ := hrel
            have hp7 : 2 ^ j ≤ 2 ^ 7 := Nat.pow_le_pow_right (by omega) (by omega)
            have HPS : Hid (2 ^ (j + 1) = 2 ^ j * 2) := Lib.hid (Nat.pow_succ 2 j)
            have HPP : Hid (2 ^ j < 2 ^ 7 ∨ j = 7) := Lib.hid (by
              by_cases h7 : j = 7
              · exact .inr h7
              · exact .inl (Nat.pow_lt_pow_right (by omega) (by omega)))
            have HJ := Lib.hid (show 2 ^ j = 2 ^ j from rfl)
            obtain ⟨p, hp⟩ : ∃ p, 2 ^ j = p := ⟨_, rfl⟩
            rw [hp] at hp7 HPS HPP ⊢
            have HPJ := Lib.hid hp
            clear hp HJ
            by_cases hjl : j < kk % 8
            · have hp64 : p ≤ 64 := by
                have h1 := HPJ.out
                have h2 : 2 ^ j ≤ 2 ^ 6 := Nat.pow_le_pow_right (by omega) (by omega)
                omega
              go_wp2
              go_round
              case rel => exact ⟨j + 1, by omega, by go_num, u8_eq (by rw [HPS.out]; omega)⟩
              case measure => simp [intOf]; omega
            · have hjk : j = kk % 8 := by omega
              have hp128 : p ≤ 128 := by omega
              have hq : kk / 8 < l.length := by omega
              obtain ⟨d, hd⟩ : ∃ d, cl[kk / 8]? = some d := ⟨_, List.getElem?_eq_getElem (by rw [HCL.out]; exact hq)⟩
              have hgd : Hid (∃ h : kk / 8 < cl.length, cl[kk / 8]'h = d) := Lib.hid (List.getElem?_eq_some_iff.1 hd)
              have hcell : wo.cell? ⟨w0.heap.size, kk / 8, none⟩ = some (.int .u8 (d.toNat : Int)) := by
                rw [HH.out.cell]
                simp [hd, byteV]
              have hfree : wo.frozen? ⟨w0.heap.size, kk / 8, none⟩ = false := HH.out.free _
              have HJK := Lib.hid hjk
              have hdl := d.toNat_lt
              clear hjk hd
              go_wp2
              go_roundw
              case rel =>
                have hxv : byteV (d ^^^ UInt8.ofNat p) = .int .u8 (bits .xor .u8 (d.toNat : Int) (p : Int)) := by
                  rw [u8_xor_nat _ _ (by omega) (by omega)]
                  unfold byteV
                  rw [UInt8.toNat_xor, toNat_small p hp128]
                refine ⟨k + 1, cl.set (kk / 8) (d ^^^ UInt8.ofNat p), by omega, by go_num, u32_eq (by rw [HTN.out]; rfl), by rw [List.length_set]; exact HCL.out, ?_, ?_, HB.out.setCell (Nat.le_refl _) _⟩
                · obtain ⟨hlt9, hget⟩ := hgd.out
                  have hx := dg_xor cl (kk / 8) (UInt8.ofNat p) hlt9
                  rw [hget] at hx
                  rw [hx, HDG.out, toNat_small p hp128, HLM.out, HO.out, Nat.mul_one, ← xor_high _ k (Nat.mod_lt _ (Nat.pow_pos (by omega))), pow_xor, ← Nat.xor_assoc, ← Nat.pow_add, ← HKK.out, ← HPJ.out, HJK.out, pow_split]
                · have h := HH.out.store (kk / 8) (byteV (d ^^^ UInt8.ofNat p))
                  rw [hxv] at h
                  have e : ((cl.set (kk / 8) (d ^^^ UInt8.ofNat p)).map byteV).toArray = (cl.map byteV).toArray.setIfInBounds (kk / 8) (.int .u8 (bits .xor .u8 (d.toNat : Int) (p : Int))) := by
                    rw [List.map_set, hxv]
                    simp
                  rw [e]
                  exact h
              case measure => simp [intOf]; omega
        · have h1 : ((tk : Int) % 2 == 1) = false := by simp; omega
          have HO := Lib.hid hodd
          clear hodd
          go_wp2
          go_roundw
          case rel => exact ⟨k + 1, cl, by omega, by go_num, u32_eq (by rw [HTN.out]; rfl), HCL.out, by rw [HDG.out, HLM.out, show tk % 2 = 0 by have := HO.out; omega]; simp, HH.out, HB.out⟩
          case measure => simp [intOf]; omega
      · obtain ⟨w3, hw3⟩ : ∃ w3 : World, w3 = wr := ⟨_, rfl⟩
        subst hw3
        have hk32 : k = 32 := by omega
        subst hk32
        have HNE : Hid (ofN cl ≠ ofN l) := Lib.hid (burst l cl bit turn HCL.out (by rw [HDG.out, Nat.mod_eq_of_lt ht]) (by omega) ht HG3.out)
        have hne : ((ofN cl : Int) != (ofN l : Int)) = true := by
          have h := HNE.out
          simp
          omega
        have HI : Hid (isTag (numB (ofN l) 4 ++ cl) ↔ false = true) := Lib.hid (by
          rw [isTag_with]
          constructor
          · intro h; exact absurd h HNE.out
          · intro h; cases h)
        have HCL2 : Hid (cl.length ≤ 2000) := Lib.hid (by rw [HCL.out]; exact g2)
        have BW3 : Hid (Below w.heap.size w w3) := Lib.hid (B0.out.trans (HB.out.mono B0.out.size))
        have LW : Hid (w.heap.size ≤ w0.heap.size) := Lib.hid B0.out.size
        have LG : Hid (w0.heap.size < w3.heap.size) := Lib.hid HH.out.lt
        have HTN1 : Hid (numB (ofN l) 4 = numB (ofN l) 4 ∧ (numB (ofN l) 4).length = 4) := Lib.hid ⟨rfl, numB_len _ _⟩
        have HRC : Hid (∀ w', Has w' w0.heap.size 5 (cl.map byteV).toArray → Reads w' (some ⟨w0.heap.size, 0, none⟩) (cl.map byteV)) := Lib.hid (fun w' hh _ => ⟨w0.heap.size, 0, rfl, fun j u hj => by rw [hh.cell]; simpa using hj⟩)
        obtain ⟨i0, hi, hz0, hz1, hz2⟩ := info_parts u8info
        have HO1 : Hid (∀ w', Below w.heap.size w w' → Has w' w0.heap.size 5 (cl.map byteV).toArray → Calls Tryd.prog 11 #[.slice (some ⟨w0.heap.size, 0, none⟩) l.length l.length] w' (SumEnd w' (ofN cl))) := Lib.hid (fun w' h hh => cOf_any _ l.length l.length cl w' (HTB.out.below h) HCL.out.symm (by have := HCL2.out; omega) (HRC.out w' hh))
        have HO2 : Hid (∀ w', Below w.heap.size w w' → Calls Tryd.prog 11 #[.slice A l.length c] w' (SumEnd w' (ofN l))) := Lib.hid (fun w' h => cOf_any A l.length c l w' (HTB.out.below h) rfl (by omega) (HA.out.below h).reads)
        clear htl
        go_wp2_with (first
          | (go_at_call 15; refine (HT.out _ BW3.out).mono ?_; rintro e w4 ⟨A1, c1, rfl, k1, k2, h3, h4⟩; have R4 := Lib.hid h3; have S4 := Lib.hid (HH.out.below h4 LG.out); have BW4 := Lib.hid (below_step BW3.out h4); have LG4 := Lib.hid (Nat.lt_of_lt_of_le LG.out h4.size); unfold maxLen at k2; clear h3 h4)
          | (go_at_call 9; (with_reducible refine (open_b (numB (ofN l) 4 ++ cl) w6 A6 (4 + l.length) c6 false (HTB.out.below BW6.out) ?_ k3 ?_ HI.out R6.out.reads).mono ?_); (simp [numB_len, HCL.out]); (have hq := HCL2.out; simp [numB_len]; omega); rintro e w7 ⟨A7, n7, c7, rfl, h4⟩; have S7 := Lib.hid (S6.out.below h4 S6.out.lt); have BW7 := Lib.hid (below_step BW6.out h4); clear h4)
          | (go_at_call 11; (with_reducible refine (HO1.out _ BW7.out S7.out).mono ?_); rintro e w8 ⟨rfl, h4⟩; have BW8 := Lib.hid (below_step BW7.out h4); clear h4)
          | (go_at_call 11; (with_reducible refine (HO2.out _ BW8.out).mono ?_); rintro e w9 ⟨rfl, h4⟩; have BW9 := Lib.hid (below_step BW8.out h4); clear h4)
          | (at_builtin; refine wpList_append_bytes rfl (.tmp 84) (.tmp 85) 22 rfl w4.heap.size 5 i0 Tryd.underlying22 hi hz0 hz1 hz2 _ 4 _ rfl O5.out (some ⟨w0.heap.size, 0, none⟩) l.length l.length cl rfl HCL.out.symm (fun h => by cases h) (HRC.out _ S5.out) (by omega) B5.out.size ?_; intro v6 w6 h3 h4; obtain ⟨A6, c6, rfl, k3, k4⟩ := own_slice h3; have hb6 := below_own_ B5.out h4 O5.out B5.out.size; rw [← List.map_append] at h3; have R6 := Lib.hid (Row.of_own h3); have S6 := Lib.hid (S4.out.below hb6 LG4.out); have BW6 := Lib.hid (BW4.out.trans (hb6.mono BW4.out.size)); clear h3 h4 hb6)
          | (at_builtin; refine wpList_append_bytes rfl (.tmp 80) (.tmp 82) 22 rfl w4.heap.size 5 i0 Tryd.underlying22 hi hz0 hz1 hz2 _ 0 [] rfl (World.ownsRow_nil _ _ _ _) A1 4 c1 (numB (ofN l) 4) rfl HTN1.out.2.symm (fun h => absurd h (R4.out.some_ (by simp [tagB_len]))) (reads_tag R4.out.reads) (by omega) (Nat.le_refl _) ?_; intro v5 w5 h3 h4; rw [Nat.zero_add, List.nil_append] at h3; have O5 := Lib.hid h3; have B5 := Lib.hid ((Below.refl w4.heap.size w4).grown h4 (Nat.le_refl _) (fun k e => by cases e)); have S5 := Lib.hid (S4.out.below B5.out LG4.out); clear h3 h4))
        go_ret
        exact ⟨rfl, BW9.out⟩
  · clear hb
    by_cases g1 : 5 ≤ l.length
    · have e1 : decide ((l.length : Int) < 5) = false := by simp; omega
      by_cases g2 : l.length ≤ 2000
      · have g3 : turn = 0 := by omega
        subst g3
        have e2 : decide (2000 < (l.length : Int)) = false := by simp; omega
        go_enter Tryd.func5, Tryd.ntmps5
        go_wp2_with (go_at_call 8; refine (awake02_any _ HTB.out).mono ?_; rintro e w0 ⟨rfl, h0⟩; have B0 := Lib.hid h0; clear h0)
        go_ret
        exact ⟨rfl, B0.out⟩
      · have e2 : decide (2000 < (l.length : Int)) = true := by simp; omega
        go_enter Tryd.func5, Tryd.ntmps5
        go_wp2_with (go_at_call 8; refine (awake02_any _ HTB.out).mono ?_; rintro e w0 ⟨rfl, h0⟩; have B0 := Lib.hid h0; clear h0)
        go_ret
        exact ⟨rfl, B0.out⟩
    · have e1 : decide ((l.length : Int) < 5) = true := by simp; omega
      go_enter Tryd.func5, Tryd.ntmps5
      go_wp2_with (go_at_call 8; refine (awake02_any _ HTB.out).mono ?_; rintro e w0 ⟨rfl, h0⟩; have B0 := Lib.hid h0; clear h0)
      go_ret
      exact ⟨rfl, B0.out⟩

end Go.Proofs.YthpmkpagjbkcjaaDoor
