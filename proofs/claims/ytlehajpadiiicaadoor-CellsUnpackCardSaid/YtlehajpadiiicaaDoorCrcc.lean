/- Package crc, whose On reads a table of 16 numbers at package level: contracts, no statement. -/
import Derived.Test.YtlehajpadiiicaaDoorCrcr
import Derived.Test.YtlehajpadiiicaaDoorOcm
namespace Go.Proofs.YtlehajpadiiicaaDoor
open Go.RowKit
set_option linter.unusedVariables false

/-! Half a byte's effect. -/
def half (i : Nat) : Nat := sts 4 i
theorem st4 (x : Nat) : sts 4 x = x / 16 ^^^ half (x % 16) := by
  have e : x = (x % 16) ^^^ (16 * (x / 16)) := by
    have h := xor_low (x % 16) (x / 16) (Nat.mod_lt _ (by omega))
    omega
  have h2 : sts 4 x = sts 4 ((x % 16) ^^^ (16 * (x / 16))) := by rw [← e]
  rw [h2, sts_xor, show 16 * (x / 16) = 2 ^ 4 * (x / 16) by omega, sts_shift, Nat.xor_comm]
  rfl
theorem half_lt (i : Nat) (h : i < 16) : half i < 4294967296 := sts_lt 4 i (by omega)
theorem and15 (x : Nat) (h : x < 4294967296) : bits .and .u32 (x : Int) 15 = ((x % 16 : Nat) : Int) := by
  have h1 := u32_and_nat x 15 h (by omega)
  have h2 : x &&& 15 = x % 16 := Nat.and_two_pow_sub_one_eq_mod x 4
  rw [h2] at h1
  exact h1

/-- The table at package level reads as the program lays it. -/
def Tab (w : World) : Prop := ∀ i, i < 16 → w.cell? ⟨0, i, none⟩ = some (.int .u32 (half i : Int))
theorem Tab.below {w w' : World} (h : Tab w) (hb : Below w.heap.size w w') : Tab w' := fun i hi =>
  (hb.cell (p := ⟨0, i, none⟩) (World.block_lt_of_cell? w _ (h i hi))).trans (h i hi)
/-- Whatever has turned since an elder world W in which the table read so lies behind W's memory. -/
theorem Tab.keep {W w : World} (h : Tab W) (hb : Below W.heap.size W w) : Tab w := h.below hb
theorem Tab.alloc {w : World} (h : Tab w) (o : Obj) : Tab (w.alloc o) := h.below ((Below.refl _ w).alloc (Nat.le_refl _) o)
theorem Tab.drew {w : World} (h : Tab w) : Tab w.drew := h

/-- A sum is told, and nothing that was there has turned. -/
def SumEnd (w : World) (x : Nat) (e : Ending) (w' : World) : Prop := e = .returned (.int .u32 (x : Int)) ∧ Below w.heap.size w w'
/-- What Open answers. -/
def OpenEnd (w : World) (l : List UInt8) (e : Ending) (w' : World) : Prop :=
  (isTag l ∧ ∃ A c, e = .returned (.tuple #[.slice A (l.drop 4).length c, .bool true]) ∧ Row w' 5 w.heap.size A ((l.drop 4).map byteV) ∧ Below w.heap.size w w') ∨
  (¬ isTag l ∧ e = .returned (.tuple #[.slice none 0 0, .bool false]) ∧ Below w.heap.size w w')

set_option maxRecDepth 100000 in
set_option maxHeartbeats 2000000 in
theorem cOn_any (sum : Nat) (A : Option Addr) (n c : Nat) (l : List UInt8) (w : World) (ht : Tab w) (hsum : sum < 4294967296) (hn : n = l.length) (hl : l.length ≤ 1000000) (h : Reads w A (l.map byteV)) :
    Calls Tryd.prog 34 #[.int .u32 sum, .slice A n c] w (SumEnd w (onN sum l)) := by
  have HN := Lib.hid hn
  have HR := Lib.hid h
  have HC := Lib.hid ht
  have HB := Lib.hid (Below.refl w.heap.size w)
  clear hn h ht
  have hinv : bits .xor .u32 IntKind.u32.max (sum : Int) = ((4294967295 - sum : Nat) : Int) := by
    have h := xor_cast 4294967295 sum (by omega) hsum
    rw [← inv_xor sum hsum] at h
    exact h
  go_enter Tryd.func34, Tryd.ntmps34
  go_wp2
  go_loop [5, 12] (fun x i => ∃ k : Nat, k ≤ n ∧ i = .int .i64 k ∧ x = .int .u32 (fd (4294967295 - sum) (l.take k) : Int)) (fun _ i => n - (intOf i).toNat)
  case atStart => exact ⟨0, Nat.zero_le _, rfl, rfl⟩
  case round =>
    obtain ⟨k, hk, rfl, rfl⟩ := hrel
    by_cases hlt : k < n
    · have hkl : k < l.length := by have := HN.out; omega
      obtain ⟨b, off, hA, hcell⟩ := HR.out (by simp; omega)
      obtain ⟨d, hd⟩ : ∃ d, l[k]? = some d := ⟨_, List.getElem?_eq_getElem hkl⟩
      have hc := hcell k (byteV d) (by simp [hd])
      unfold byteV at hc
      have HM := Lib.hid (fd_more (4294967295 - sum) l k d hd)
      have hx := fd_lt (l.take k) (4294967295 - sum) (by omega)
      clear hcell hd
      subst hA
      generalize fd (4294967295 - sum) (l.take k) = x at hx HM
      have hdl := d.toNat_lt
      obtain ⟨x1, hx1⟩ : ∃ x1, x1 = x ^^^ d.toNat := ⟨_, rfl⟩
      have l1 : x1 < 4294967296 := by rw [hx1]; exact Nat.xor_lt_two_pow (n := 32) hx (by omega)
      have e1 : bits .xor .u32 (x : Int) (d.toNat : Int) = (x1 : Int) := by rw [xor_cast x d.toNat hx (by omega), hx1]
      obtain ⟨i1, hi1⟩ : ∃ i1, i1 = x1 % 16 := ⟨_, rfl⟩
      have li1 : i1 < 16 := by omega
      have e2 : bits .and .u32 (x1 : Int) 15 = (i1 : Int) := by rw [and15 x1 l1, hi1]
      obtain ⟨p1, hp1⟩ : ∃ p1, p1 = half i1 := ⟨_, rfl⟩
      have c1 : w.cell? ⟨0, i1, none⟩ = some (.int .u32 (p1 : Int)) := by rw [hp1]; exact HC.out i1 li1
      have lp1 : p1 < 4294967296 := by rw [hp1]; exact half_lt i1 li1
      obtain ⟨x2, hx2⟩ : ∃ x2, x2 = x1 / 16 ^^^ p1 := ⟨_, rfl⟩
      have l2 : x2 < 4294967296 := by rw [hx2]; exact Nat.xor_lt_two_pow (n := 32) (by omega) lp1
      have e3 : bits .xor .u32 ((x1 : Int) / 16) (p1 : Int) = (x2 : Int) := by
        have h := xor_cast (x1 / 16) p1 (by omega) lp1
        rw [hx2, ← h]
        rfl
      obtain ⟨i2, hi2⟩ : ∃ i2, i2 = x2 % 16 := ⟨_, rfl⟩
      have li2 : i2 < 16 := by omega
      have e4 : bits .and .u32 (x2 : Int) 15 = (i2 : Int) := by rw [and15 x2 l2, hi2]
      obtain ⟨p2, hp2⟩ : ∃ p2, p2 = half i2 := ⟨_, rfl⟩
      have c2 : w.cell? ⟨0, i2, none⟩ = some (.int .u32 (p2 : Int)) := by rw [hp2]; exact HC.out i2 li2
      have lp2 : p2 < 4294967296 := by rw [hp2]; exact half_lt i2 li2
      obtain ⟨x3, hx3⟩ : ∃ x3, x3 = x2 / 16 ^^^ p2 := ⟨_, rfl⟩
      have e5 : bits .xor .u32 ((x2 : Int) / 16) (p2 : Int) = (x3 : Int) := by
        have h := xor_cast (x2 / 16) p2 (by omega) lp2
        rw [hx3, ← h]
        rfl
      have HF : Hid (bt x d = x3) := Lib.hid (by
        unfold bt
        rw [← hx1, show (8 : Nat) = 4 + 4 from rfl, sts_add, st4 x1, ← hi1, ← hp1, ← hx2, st4 x2, ← hi2, ← hp2, ← hx3])
      clear hx1 hi1 hp1 hx2 hi2 hp2 hx3
      go_wp2
      go_round
      case rel => exact ⟨k + 1, by omega, by go_num, u32_eq (by rw [HM.out, HF.out])⟩
      case measure => simp [intOf]; omega
    · have e : l.take k = l := List.take_of_length_le (by have := HN.out; omega)
      rw [e]
      have hy := fd_lt l (4294967295 - sum) (by omega)
      have hi2 : bits .xor .u32 IntKind.u32.max (fd (4294967295 - sum) l : Int) = (onN sum l : Int) := by
        have h := xor_cast 4294967295 (fd (4294967295 - sum) l) (by omega) hy
        rw [← inv_xor _ hy] at h
        exact h
      clear e hy
      go_wp2
      go_ret
      exact ⟨rfl, HB.out⟩

theorem own_four (w : World) (m : Nat) : (w.alloc (.cells ((numB m 4).map byteV).toArray 5)).ownsRow w.heap.size 5 1 (.slice (some ⟨w.heap.size, 0, none⟩) 4 4) 4 ((numB m 4).map byteV) :=
  ⟨by simp [numB_len], .inr ⟨w.heap.size, 4, _, rfl, Nat.le_refl _, heap_alloc_new w _, Nat.le_refl _, by unfold maxLen; omega, by simp [numB_len], by rw [List.toList_toArray]; exact List.take_of_length_le (by simp [numB_len])⟩⟩
theorem cOf_any (A : Option Addr) (n c : Nat) (l : List UInt8) (w : World) (ht : Tab w) (hn : n = l.length) (hl : l.length ≤ 1000000) (h : Reads w A (l.map byteV)) :
    Calls Tryd.prog 27 #[.slice A n c] w (SumEnd w (ofN l)) := by
  have HK := Lib.hid (cOn_any 0 A n c l w ht (by decide) hn hl h)
  clear hn h ht
  go_enter Tryd.func27, Tryd.ntmps27
  go_wp2_with (go_at_call 34; refine HK.out.mono ?_; rintro e w1 ⟨rfl, h1⟩; have B1 := Lib.hid h1; clear h1)
  go_ret
  exact ⟨rfl, B1.out⟩

set_option maxHeartbeats 400000 in
theorem cTag_any (A : Option Addr) (n c : Nat) (l : List UInt8) (w : World) (ht : Tab w) (hn : n = l.length) (hl : l.length ≤ 900000) (h : Reads w A (l.map byteV)) (hA : A = none → c = 0) :
    Calls Tryd.prog 19 #[.slice A n c] w (Fresh w.heap.size (tagB l) w) := by
  have HK := Lib.hid (cOf_any A n c l w ht hn (by omega) h)
  have HA := Lib.hid h
  have HZ := Lib.hid hA
  have hx := ofN_lt l
  have hn2 : n ≤ 900000 := by omega
  have HN := Lib.hid hn
  clear h hn hA ht
  obtain ⟨i0, hi, hz0, hz1, hz2⟩ := info_parts u8info
  go_enter Tryd.func19, Tryd.ntmps19
  go_wp2_with (first
    | (go_at_call 27; refine HK.out.mono ?_; rintro e w1 ⟨rfl, h1⟩; have B1 := Lib.hid h1; clear h1)
    | (go_at_call 26; refine (Num_yes (ofN l) 4 w1 (by omega) (by omega) (by omega)).mono ?_; rintro e w2 ⟨rfl, rfl⟩)
    | (at_builtin; refine wpList_append_bytes rfl _ _ 25 rfl w1.heap.size 5 i0 Tryd.underlying25 hi hz0 hz1 hz2 _ 4 _ rfl (own_four w1 (ofN l)) A n c l rfl HN.out HZ.out (HA.out.keep_ (below_step B1.out ((Below.refl _ w1).alloc (Nat.le_refl _) _))) (by omega) (by simp) ?_; intro v3 w3 h3 h4; have O3 := Lib.hid h3; have G3 := Lib.hid h4; clear h3 h4))
  go_ret
  have ho := O3.out
  rw [← List.map_append, HN.out, Nat.add_comm] at ho
  have e : l.length + 4 = (tagB l).length := (tagB_len l).symm
  rw [e] at ho
  obtain ⟨A3, c3, rfl, k1, k2⟩ := own_slice ho
  exact ⟨A3, c3, rfl, k1, k2, (Row.of_own ho).low B1.out.size, below_step B1.out (((Below.refl _ w1).alloc (Nat.le_refl _) _).trans (below_only G3.out (Nat.le_refl _) (by simp)))⟩

/-! Open. -/
theorem numB_four (m : List UInt8) (h : m.length = 4) : numB (numOf m) 4 = m := by
  rcases m with _ | ⟨a, _ | ⟨b, _ | ⟨c, _ | ⟨d, _ | ⟨e, m⟩⟩⟩⟩⟩ <;> simp at h
  have ha := a.toNat_lt
  have hb := b.toNat_lt
  have hc := c.toNat_lt
  have hd := d.toNat_lt
  apply List.ext_getElem?
  intro j
  by_cases hj : j < 4
  · rw [numB_at _ _ _ hj]
    have e : numOf [a, b, c, d] = ((a.toNat * 256 + b.toNat) * 256 + c.toNat) * 256 + d.toNat := by simp [numOf]
    rw [e]
    have hu : ∀ (n : Nat) (u : UInt8), n % 256 = u.toNat → UInt8.ofNat n = u := fun n u h => UInt8.toNat_inj.1 (by simpa using h)
    rcases j with _ | _ | _ | _ | j
    · exact congrArg some (hu _ _ (by simp; omega))
    · exact congrArg some (hu _ _ (by simp; omega))
    · exact congrArg some (hu _ _ (by simp; omega))
    · exact congrArg some (hu _ _ (by simp))
    · omega
  · rw [List.getElem?_eq_none (by rw [numB_len]; omega), List.getElem?_eq_none (by simp; omega)]
theorem numOf_four (x : Nat) (h : x < 4294967296) : numOf (numB x 4) = x := by
  have e : numB x 4 = [UInt8.ofNat (x / 256 ^ 3), UInt8.ofNat (x / 256 ^ 2), UInt8.ofNat (x / 256 ^ 1), UInt8.ofNat (x / 256 ^ 0)] := rfl
  rw [e]
  simp [numOf]
  omega
theorem isTag_sum (l : List UInt8) (h : 4 ≤ l.length) : isTag l ↔ numOf (l.take 4) = ofN (l.drop 4) := by
  have ht : (l.take 4).length = 4 := by simp; omega
  constructor
  · rintro ⟨_, he⟩
    have h2 : (tagB (l.drop 4)).take 4 = numB (ofN (l.drop 4)) 4 := by
      unfold tagB
      have := List.take_left (l₁ := numB (ofN (l.drop 4)) 4) (l₂ := l.drop 4)
      rwa [numB_len] at this
    rw [he] at h2
    rw [h2, numOf_four _ (ofN_lt _)]
  · intro he
    refine ⟨h, ?_⟩
    unfold tagB
    rw [← he, numB_four _ ht, List.take_append_drop]
set_option maxHeartbeats 1000000 in
theorem cOpen_any (A : Option Addr) (n c : Nat) (l : List UInt8) (w : World) (ht : Tab w) (hn : n = l.length) (hc : n ≤ c) (hl : l.length ≤ 1000000) (h : Reads w A (l.map byteV)) :
    Calls Tryd.prog 22 #[.slice A n c] w (OpenEnd w l) := by
  subst hn
  have HK := Lib.hid (Take_any A c l w hl h)
  have HT := Lib.hid ht
  clear h ht
  by_cases h4 : l.length < 4
  · have HN := Lib.hid (fun P w1 (h : Tk w1 w.heap.size P l 0) => tNum_any w.heap.size P l 0 4 w1 h)
    rw [show stN l 0 4 = (0, l, 10) by simp [stN]; omega] at HN
    have HR := Lib.hid (fun P w1 (h : Tk w1 w.heap.size P l 10) => tRest_any w.heap.size P l 10 w1 h hl)
    rw [show stS l 10 l.length = ([], l, 10) by simp [stS]] at HR
    have HD := Lib.hid (fun P w1 (h : Tk w1 w.heap.size P l 10) => tDone_any h)
    rw [show dn l 10 = 10 by simp [dn]] at HD
    have hno : Hid (¬ isTag l) := Lib.hid (fun h => by have := h.1; omega)
    go_enter Tryd.func22, Tryd.ntmps22
    go_wp2_with (first
      | (go_at_call 29; refine HK.out.mono ?_; rintro e w1 ⟨P, rfl, k1, k2⟩; have T1 := Lib.hid k1; have B1 := Lib.hid k2; have LP : Hid (w.heap.size ≤ P) := Lib.hid (by obtain ⟨_, _, _, h, _⟩ := k1; exact h); clear k1 k2)
      | (go_at_call 30; refine (HN.out P w1 T1.out).mono ?_; rintro e w2 ⟨rfl, k1, k2⟩; have T2 := Lib.hid k1; have B2 := Lib.hid (B1.out.trans (below_only k2 LP.out B1.out.size)); clear k1 k2)
      | (go_at_call 31; refine (HR.out P w2 T2.out).mono ?_; rintro e w3 ⟨⟨A3, c3, rfl, _, _, k0⟩, k1, k2⟩; have T3 := Lib.hid k1; have B3 := Lib.hid (B2.out.trans (below_only k2 LP.out B2.out.size)); clear k0 k1 k2)
      | (go_at_call 32; refine (HD.out P w3 T3.out).mono ?_; rintro e w4 ⟨rfl, rfl⟩))
    go_ret2
    exact .inr ⟨hno.out, rfl, B3.out⟩
  · have hd : (l.drop 4).length ≤ 1000000 := by simp; omega
    have HI := Lib.hid (isTag_sum l (by omega))
    have HN := Lib.hid (fun P w1 (h : Tk w1 w.heap.size P l 0) => tNum_any w.heap.size P l 0 4 w1 h)
    rw [show stN l 0 4 = (numOf (l.take 4), l.drop 4, 0) by simp [stN]; omega] at HN
    have HR := Lib.hid (fun P w1 (h : Tk w1 w.heap.size P (l.drop 4) 0) => tRest_any w.heap.size P (l.drop 4) 0 w1 h hd)
    rw [show stS (l.drop 4) 0 (l.drop 4).length = (l.drop 4, [], 0) by simp only [stS, ne_eq, not_true, if_false, Nat.lt_irrefl, List.take_length, List.drop_length]] at HR
    have HD := Lib.hid (fun P w1 (h : Tk w1 w.heap.size P [] 0) => tDone_any h)
    rw [show dn [] 0 = 0 by simp [dn]] at HD
    have HO := Lib.hid (fun A' c' w1 (h1 : Tab w1) (h2 : Reads w1 A' ((l.drop 4).map byteV)) => cOf_any A' _ c' (l.drop 4) w1 h1 rfl hd h2)
    have hlx := ofN_lt (l.drop 4)
    have hly : numOf (l.take 4) < 4294967296 := by have := numOf_take_lt l 4 4 (Nat.le_refl _); omega
    unfold OpenEnd
    generalize l.drop 4 = r at *
    generalize numOf (l.take 4) = y at *
    generalize ofN r = x at *
    by_cases hy : y = x
    · have hxy : ((y : Int) != (x : Int)) = false := by simp [hy]
      have hyes : Hid (isTag l) := Lib.hid (HI.out.2 hy)
      clear hy
      go_enter Tryd.func22, Tryd.ntmps22
      go_wp2_with (first
        | (go_at_call 29; refine HK.out.mono ?_; rintro e w1 ⟨P, rfl, k1, k2⟩; have T1 := Lib.hid k1; have B1 := Lib.hid k2; have LP : Hid (w.heap.size ≤ P) := Lib.hid (by obtain ⟨_, _, _, h, _⟩ := k1; exact h); clear k1 k2)
        | (go_at_call 30; refine (HN.out P w1 T1.out).mono ?_; rintro e w2 ⟨rfl, k1, k2⟩; have T2 := Lib.hid k1; have B2 := Lib.hid (B1.out.trans (below_only k2 LP.out B1.out.size)); clear k1 k2)
        | (go_at_call 31; refine (HR.out P w2 T2.out).mono ?_; rintro e w3 ⟨⟨A3, c3, rfl, _, _, k0⟩, k1, k2⟩; have R3 := Lib.hid (Row.low k0 B2.out.size); have T3 := Lib.hid k1; have B3 := Lib.hid (B2.out.trans (below_only k2 LP.out B2.out.size)); clear k0 k1 k2)
        | (go_at_call 32; refine (HD.out P w3 T3.out).mono ?_; rintro e w4 ⟨rfl, rfl⟩)
        | (go_at_call 27; refine (HO.out A3 c3 w3 (HT.out.below B3.out) R3.out.reads).mono ?_; rintro e w5 ⟨rfl, k1⟩; have R5 := Lib.hid (R3.out.below k1); have B5 := Lib.hid (below_step B3.out k1); clear k1))
      go_ret2
      exact .inl ⟨hyes.out, A3, c3, rfl, R5.out, B5.out⟩
    · have hxy : ((y : Int) != (x : Int)) = true := by simp; omega
      have hno : Hid (¬ isTag l) := Lib.hid (fun h => hy (HI.out.1 h))
      clear hy
      go_enter Tryd.func22, Tryd.ntmps22
      go_wp2_with (first
        | (go_at_call 29; refine HK.out.mono ?_; rintro e w1 ⟨P, rfl, k1, k2⟩; have T1 := Lib.hid k1; have B1 := Lib.hid k2; have LP : Hid (w.heap.size ≤ P) := Lib.hid (by obtain ⟨_, _, _, h, _⟩ := k1; exact h); clear k1 k2)
        | (go_at_call 30; refine (HN.out P w1 T1.out).mono ?_; rintro e w2 ⟨rfl, k1, k2⟩; have T2 := Lib.hid k1; have B2 := Lib.hid (B1.out.trans (below_only k2 LP.out B1.out.size)); clear k1 k2)
        | (go_at_call 31; refine (HR.out P w2 T2.out).mono ?_; rintro e w3 ⟨⟨A3, c3, rfl, _, _, k0⟩, k1, k2⟩; have R3 := Lib.hid (Row.low k0 B2.out.size); have T3 := Lib.hid k1; have B3 := Lib.hid (B2.out.trans (below_only k2 LP.out B2.out.size)); clear k0 k1 k2)
        | (go_at_call 32; refine (HD.out P w3 T3.out).mono ?_; rintro e w4 ⟨rfl, rfl⟩)
        | (go_at_call 27; refine (HO.out A3 c3 w3 (HT.out.below B3.out) R3.out.reads).mono ?_; rintro e w5 ⟨rfl, k1⟩; have R5 := Lib.hid (R3.out.below k1); have B5 := Lib.hid (below_step B3.out k1); clear k1))
      go_ret2
      exact .inr ⟨hno.out, rfl, B5.out⟩

end Go.Proofs.YtlehajpadiiicaaDoor
