import Derived.Test.YtnponjdnjkegmaaDoorJ00
import Derived.Test.YtnponjdnjkegmaaDoorJ01
import Derived.ProofKit
import Derived.OpenShut
import Derived.ShutString
import Derived.ChangeOld
import Derived.Deep.SlicePairs
import Derived.Test.YtnponjdnjkegmaaDoorCards
import Derived.Test.YtnponjdnjkegmaaDoorTie
import Derived.LaidMore
import Derived.SevenTiedAt
import Derived.Stop.Joined
import Derived.Lib.SlBytesConst
import Derived.Laws.CopyOwn
/- Of a claim's texts, joined: Crcc Args Laid Crca Cem. No statement but in the last. -/
section
namespace Go.Proofs.YtnponjdnjkegmaaDoor
open Go.RowKit
set_option linter.unusedVariables false

/-! Half a byte's effect. -/
def half (i : Nat) : Nat := sts 4 i
theorem st4 (x : Nat) : sts 4 x = x / 16 ^^^ half (x % 16) := by
  have e : x = (x % 16) ^^^ (16 * (x / 16)) := by
    have h := xor_low (x % 16) (x / 16) (Nat.mod_lt _ (by omega))
    omega
  have h2 : sts 4 x = sts 4 ((x % 16) ^^^ (16 * (x / 16))) := by rw [← e]
  rw [h2, sts_xor, show 16 * (x / 16) = 2 ^ 4 * (x / 16) by omega, sts_shift, Nat.xor_comm]
  rfl
theorem half_lt (i : Nat) (h : i < 16) : half i < 4294967296 := sts_lt 4 i (by omega)
theorem and15 (x : Nat) (h : x < 4294967296) : bits .and .u32 (x : Int) 15 = ((x % 16 : Nat) : Int) := by
  have h1 := u32_and_nat x 15 h (by omega)
  have h2 : x &&& 15 = x % 16 := Nat.and_two_pow_sub_one_eq_mod x 4
  rw [h2] at h1
  exact h1

def Tab (w : World) : Prop := ∀ i, i < 16 → w.cell? ⟨0, i, none⟩ = some (.int .u32 (half i : Int))
theorem Tab.below {w w' : World} (h : Tab w) (hb : Below w.heap.size w w') : Tab w' := fun i hi =>
  (hb.cell (p := ⟨0, i, none⟩) (World.block_lt_of_cell? w _ (h i hi))).trans (h i hi)
theorem Tab.alloc {w : World} (h : Tab w) (o : Obj) : Tab (w.alloc o) := h.below ((Below.refl _ w).alloc (Nat.le_refl _) o)
theorem Tab.drew {w : World} (h : Tab w) : Tab w.drew := h

def SumEnd (w : World) (x : Nat) (e : Ending) (w' : World) : Prop := e = .returned (.int .u32 (x : Int)) ∧ Below w.heap.size w w'
def OpenEnd (w : World) (l : List UInt8) (e : Ending) (w' : World) : Prop :=
  (isTag l ∧ ∃ A c, e = .returned (.tuple #[.slice A (l.drop 4).length c, .bool true]) ∧ Row w' 5 w.heap.size A ((l.drop 4).map byteV) ∧ Below w.heap.size w w') ∨
  (¬ isTag l ∧ e = .returned (.tuple #[.slice none 0 0, .bool false]) ∧ Below w.heap.size w w')

set_option maxRecDepth 100000 in
set_option maxHeartbeats 2000000 in
theorem cOn_any (sum : Nat) (A : Option Addr) (n c : Nat) (l : List UInt8) (w : World) (ht : Tab w) (hsum : sum < 4294967296) (hn : n = l.length) (hl : l.length ≤ 1000000) (h : Reads w A (l.map byteV)) :
    Calls Tryd.prog 60 #[.int .u32 sum, .slice A n c] w (SumEnd w (onN sum l)) := by
  have HN := Lib.hid hn
  have HR := Lib.hid h
  have HC := Lib.hid ht
  have HB := Lib.hid (Below.refl w.heap.size w)
  clear hn h ht
  have hinv : bits .xor .u32 IntKind.u32.max (sum : Int) = ((4294967295 - sum : Nat) : Int) := by
    have h := xor_cast 4294967295 sum (by omega) hsum
    rw [← inv_xor sum hsum] at h
    exact h
  go_enter Tryd.func60, Tryd.ntmps60
  go_wp2
  go_loop [5, 12] (fun x i => ∃ k : Nat, k ≤ n ∧ i = .int .i64 k ∧ x = .int .u32 (fd (4294967295 - sum) (l.take k) : Int)) (fun _ i => n - (intOf i).toNat)
  case atStart => exact ⟨0, Nat.zero_le _, rfl, rfl⟩
  case round =>
    obtain ⟨k, hk, rfl, rfl⟩ := hrel
    by_cases hlt : k < n
    · have hkl : k < l.length := by have := HN.out; omega
      obtain ⟨b, off, hA, hcell⟩ := HR.out (by simp; omega)
      obtain ⟨d, hd⟩ : ∃ d, l[k]? = some d := ⟨_, List.getElem?_eq_getElem hkl⟩
      have hc := hcell k (byteV d) (by simp [hd])
      unfold byteV at hc
      have HM := Lib.hid (fd_more (4294967295 - sum) l k d hd)
      have hx := fd_lt (l.take k) (4294967295 - sum) (by omega)
      clear hcell hd
      subst hA
      generalize fd (4294967295 - sum) (l.take k) = x at hx HM
      have hdl := d.toNat_lt
      obtain ⟨x1, hx1⟩ : ∃ x1, x1 = x ^^^ d.toNat := ⟨_, rfl⟩
      have l1 : x1 < 4294967296 := by rw [hx1]; exact Nat.xor_lt_two_pow (n := 32) hx (by omega)
      have e1 : bits .xor .u32 (x : Int) (d.toNat : Int) = (x1 : Int) := by rw [xor_cast x d.toNat hx (by omega), hx1]
      obtain ⟨i1, hi1⟩ : ∃ i1, i1 = x1 % 16 := ⟨_, rfl⟩
      have li1 : i1 < 16 := by omega
      have e2 : bits .and .u32 (x1 : Int) 15 = (i1 : Int) := by rw [and15 x1 l1, hi1]
      obtain ⟨p1, hp1⟩ : ∃ p1, p1 = half i1 := ⟨_, rfl⟩
      have c1 : w.cell? ⟨0, i1, none⟩ = some (.int .u32 (p1 : Int)) := by rw [hp1]; exact HC.out i1 li1
      have lp1 : p1 < 4294967296 := by rw [hp1]; exact half_lt i1 li1
      obtain ⟨x2, hx2⟩ : ∃ x2, x2 = x1 / 16 ^^^ p1 := ⟨_, rfl⟩
      have l2 : x2 < 4294967296 := by rw [hx2]; exact Nat.xor_lt_two_pow (n := 32) (by omega) lp1
      have e3 : bits .xor .u32 ((x1 : Int) / 16) (p1 : Int) = (x2 : Int) := by
        have h := xor_cast (x1 / 16) p1 (by omega) lp1
        rw [hx2, ← h]
        rfl
      obtain ⟨i2, hi2⟩ : ∃ i2, i2 = x2 % 16 := ⟨_, rfl⟩
      have li2 : i2 < 16 := by omega
      have e4 : bits .and .u32 (x2 : Int) 15 = (i2 : Int) := by rw [and15 x2 l2, hi2]
      obtain ⟨p2, hp2⟩ : ∃ p2, p2 = half i2 := ⟨_, rfl⟩
      have c2 : w.cell? ⟨0, i2, none⟩ = some (.int .u32 (p2 : Int)) := by rw [hp2]; exact HC.out i2 li2
      have lp2 : p2 < 4294967296 := by rw [hp2]; exact half_lt i2 li2
      obtain ⟨x3, hx3⟩ : ∃ x3, x3 = x2 / 16 ^^^ p2 := ⟨_, rfl⟩
      have e5 : bits .xor .u32 ((x2 : Int) / 16) (p2 : Int) = (x3 : Int) := by
        have h := xor_cast (x2 / 16) p2 (by omega) lp2
        rw [hx3, ← h]
        rfl
      have HF : Hid (bt x d = x3) := Lib.hid (by
        unfold bt
        rw [← hx1, show (8 : Nat) = 4 + 4 from rfl, sts_add, st4 x1, ← hi1, ← hp1, ← hx2, st4 x2, ← hi2, ← hp2, ← hx3])
      clear hx1 hi1 hp1 hx2 hi2 hp2 hx3
      go_wp2
      go_round
      case rel => exact ⟨k + 1, by omega, by go_num, u32_eq (by rw [HM.out, HF.out])⟩
      case measure => simp [intOf]; omega
    · have e : l.take k = l := List.take_of_length_le (by have := HN.out; omega)
      rw [e]
      have hy := fd_lt l (4294967295 - sum) (by omega)
      have hi2 : bits .xor .u32 IntKind.u32.max (fd (4294967295 - sum) l : Int) = (onN sum l : Int) := by
        have h := xor_cast 4294967295 (fd (4294967295 - sum) l) (by omega) hy
        rw [← inv_xor _ hy] at h
        exact h
      clear e hy
      go_wp2
      go_ret
      exact ⟨rfl, HB.out⟩

theorem own_four (w : World) (m : Nat) : (w.alloc (.cells ((numB m 4).map byteV).toArray 5)).ownsRow w.heap.size 5 1 (.slice (some ⟨w.heap.size, 0, none⟩) 4 4) 4 ((numB m 4).map byteV) :=
  ⟨by simp [numB_len], .inr ⟨w.heap.size, 4, _, rfl, Nat.le_refl _, heap_alloc_new w _, Nat.le_refl _, by unfold maxLen; omega, by simp [numB_len], by rw [List.toList_toArray]; exact List.take_of_length_le (by simp [numB_len])⟩⟩
theorem cOf_any (A : Option Addr) (n c : Nat) (l : List UInt8) (w : World) (ht : Tab w) (hn : n = l.length) (hl : l.length ≤ 1000000) (h : Reads w A (l.map byteV)) :
    Calls Tryd.prog 52 #[.slice A n c] w (SumEnd w (ofN l)) := by
  have HK := Lib.hid (cOn_any 0 A n c l w ht (by decide) hn hl h)
  clear hn h ht
  go_enter Tryd.func52, Tryd.ntmps52
  go_wp2_with (go_at_call 60; refine HK.out.mono ?_; rintro e w1 ⟨rfl, h1⟩; have B1 := Lib.hid h1; clear h1)
  go_ret
  exact ⟨rfl, B1.out⟩

set_option maxHeartbeats 400000 in
theorem cTag_any (A : Option Addr) (n c : Nat) (l : List UInt8) (w : World) (ht : Tab w) (hn : n = l.length) (hl : l.length ≤ 900000) (h : Reads w A (l.map byteV)) (hA : A = none → c = 0) :
    Calls Tryd.prog 39 #[.slice A n c] w (Fresh w.heap.size (tagB l) w) := by
  have HK := Lib.hid (cOf_any A n c l w ht hn (by omega) h)
  have HA := Lib.hid h
  have HZ := Lib.hid hA
  have hx := ofN_lt l
  have hn2 : n ≤ 900000 := by omega
  have HN := Lib.hid hn
  clear h hn hA ht
  obtain ⟨i0, hi, hz0, hz1, hz2⟩ := info_parts u8info
  go_enter Tryd.func39, Tryd.ntmps39
  go_wp2_with (first
    | (go_at_call 52; refine HK.out.mono ?_; rintro e w1 ⟨rfl, h1⟩; have B1 := Lib.hid h1; clear h1)
    | (go_at_call 41; refine (Num_yes (ofN l) 4 w1 (by omega) (by omega) (by omega)).mono ?_; rintro e w2 ⟨rfl, rfl⟩)
    | (at_builtin; refine wpList_append_bytes rfl _ _ 31 rfl w1.heap.size 5 i0 Tryd.underlying31 hi hz0 hz1 hz2 _ 4 _ rfl (own_four w1 (ofN l)) A n c l rfl HN.out HZ.out (HA.out.keep_ (below_step B1.out ((Below.refl _ w1).alloc (Nat.le_refl _) _))) (by omega) (by simp) ?_; intro v3 w3 h3 h4; have O3 := Lib.hid h3; have G3 := Lib.hid h4; clear h3 h4))
  go_ret
  have ho := O3.out
  rw [← List.map_append, HN.out, Nat.add_comm] at ho
  have e : l.length + 4 = (tagB l).length := (tagB_len l).symm
  rw [e] at ho
  obtain ⟨A3, c3, rfl, k1, k2⟩ := own_slice ho
  exact ⟨A3, c3, rfl, k1, k2, (Row.of_own ho).low B1.out.size, below_step B1.out (((Below.refl _ w1).alloc (Nat.le_refl _) _).trans (below_only G3.out (Nat.le_refl _) (by simp)))⟩

/-! Open. -/
theorem numB_four (m : List UInt8) (h : m.length = 4) : numB (numOf m) 4 = m := by
  rcases m with _ | ⟨a, _ | ⟨b, _ | ⟨c, _ | ⟨d, _ | ⟨e, m⟩⟩⟩⟩⟩ <;> simp at h
  have ha := a.toNat_lt
  have hb := b.toNat_lt
  have hc := c.toNat_lt
  have hd := d.toNat_lt
  apply List.ext_getElem?
  intro j
  by_cases hj : j < 4
  · rw [numB_at _ _ _ hj]
    have e : numOf [a, b, c, d] = ((a.toNat * 256 + b.toNat) * 256 + c.toNat) * 256 + d.toNat := by simp [numOf]
    rw [e]
    have hu : ∀ (n : Nat) (u : UInt8), n % 256 = u.toNat → UInt8.ofNat n = u := fun n u h => UInt8.toNat_inj.1 (by simpa using h)
    rcases j with _ | _ | _ | _ | j
    · exact congrArg some (hu _ _ (by simp; omega))
    · exact congrArg some (hu _ _ (by simp; omega))
    · exact congrArg some (hu _ _ (by simp; omega))
    · exact congrArg some (hu _ _ (by simp))
    · omega
  · rw [List.getElem?_eq_none (by rw [numB_len]; omega), List.getElem?_eq_none (by simp; omega)]
theorem numOf_four (x : Nat) (h : x < 4294967296) : numOf (numB x 4) = x := by
  have e : numB x 4 = [UInt8.ofNat (x / 256 ^ 3), UInt8.ofNat (x / 256 ^ 2), UInt8.ofNat (x / 256 ^ 1), UInt8.ofNat (x / 256 ^ 0)] := rfl
  rw [e]
  simp [numOf]
  omega
theorem isTag_sum (l : List UInt8) (h : 4 ≤ l.length) : isTag l ↔ numOf (l.take 4) = ofN (l.drop 4) := by
  have ht : (l.take 4).length = 4 := by simp; omega
  constructor
  · rintro ⟨_, he⟩
    have h2 : (tagB (l.drop 4)).take 4 = numB (ofN (l.drop 4)) 4 := by
      unfold tagB
      have := List.take_left (l₁ := numB (ofN (l.drop 4)) 4) (l₂ := l.drop 4)
      rwa [numB_len] at this
    rw [he] at h2
    rw [h2, numOf_four _ (ofN_lt _)]
  · intro he
    refine ⟨h, ?_⟩
    unfold tagB
    rw [← he, numB_four _ ht, List.take_append_drop]
set_option maxHeartbeats 1000000 in
theorem cOpen_any (A : Option Addr) (n c : Nat) (l : List UInt8) (w : World) (ht : Tab w) (hn : n = l.length) (hc : n ≤ c) (hl : l.length ≤ 1000000) (h : Reads w A (l.map byteV)) :
    Calls Tryd.prog 43 #[.slice A n c] w (OpenEnd w l) := by
  subst hn
  have HK := Lib.hid (Take_any A c l w hl h)
  have HT := Lib.hid ht
  clear h ht
  by_cases h4 : l.length < 4
  · have HN := Lib.hid (fun P w1 (h : Tk w1 w.heap.size P l 0) => tNum_any w.heap.size P l 0 4 w1 h)
    rw [show stN l 0 4 = (0, l, 10) by simp [stN]; omega] at HN
    have HR := Lib.hid (fun P w1 (h : Tk w1 w.heap.size P l 10) => tRest_any w.heap.size P l 10 w1 h hl)
    rw [show stS l 10 l.length = ([], l, 10) by simp [stS]] at HR
    have HD := Lib.hid (fun P w1 (h : Tk w1 w.heap.size P l 10) => tDone_any h)
    rw [show dn l 10 = 10 by simp [dn]] at HD
    have hno : Hid (¬ isTag l) := Lib.hid (fun h => by have := h.1; omega)
    go_enter Tryd.func43, Tryd.ntmps43
    go_wp2_with (first
      | (go_at_call 46; refine HK.out.mono ?_; rintro e w1 ⟨P, rfl, k1, k2⟩; have T1 := Lib.hid k1; have B1 := Lib.hid k2; have LP : Hid (w.heap.size ≤ P) := Lib.hid (by obtain ⟨_, _, _, h, _⟩ := k1; exact h); clear k1 k2)
      | (go_at_call 54; refine (HN.out P w1 T1.out).mono ?_; rintro e w2 ⟨rfl, k1, k2⟩; have T2 := Lib.hid k1; have B2 := Lib.hid (B1.out.trans (below_only k2 LP.out B1.out.size)); clear k1 k2)
      | (go_at_call 55; refine (HR.out P w2 T2.out).mono ?_; rintro e w3 ⟨⟨A3, c3, rfl, _, _, k0⟩, k1, k2⟩; have T3 := Lib.hid k1; have B3 := Lib.hid (B2.out.trans (below_only k2 LP.out B2.out.size)); clear k0 k1 k2)
      | (go_at_call 56; refine (HD.out P w3 T3.out).mono ?_; rintro e w4 ⟨rfl, rfl⟩))
    go_ret2
    exact .inr ⟨hno.out, rfl, B3.out⟩
  · have hd : (l.drop 4).length ≤ 1000000 := by simp; omega
    have HI := Lib.hid (isTag_sum l (by omega))
    have HN := Lib.hid (fun P w1 (h : Tk w1 w.heap.size P l 0) => tNum_any w.heap.size P l 0 4 w1 h)
    rw [show stN l 0 4 = (numOf (l.take 4), l.drop 4, 0) by simp [stN]; omega] at HN
    have HR := Lib.hid (fun P w1 (h : Tk w1 w.heap.size P (l.drop 4) 0) => tRest_any w.heap.size P (l.drop 4) 0 w1 h hd)
    rw [show stS (l.drop 4) 0 (l.drop 4).length = (l.drop 4, [], 0) by simp only [stS, ne_eq, not_true, if_false, Nat.lt_irrefl, List.take_length, List.drop_length]] at HR
    have HD := Lib.hid (fun P w1 (h : Tk w1 w.heap.size P [] 0) => tDone_any h)
    rw [show dn [] 0 = 0 by simp [dn]] at HD
    have HO := Lib.hid (fun A' c' w1 (h1 : Tab w1) (h2 : Reads w1 A' ((l.drop 4).map byteV)) => cOf_any A' _ c' (l.drop 4) w1 h1 rfl hd h2)
    have hlx := ofN_lt (l.drop 4)
    have hly : numOf (l.take 4) < 4294967296 := by have := numOf_take_lt l 4 4 (Nat.le_refl _); omega
    unfold OpenEnd
    generalize l.drop 4 = r at *
    generalize numOf (l.take 4) = y at *
    generalize ofN r = x at *
    by_cases hy : y = x
    · have hxy : ((y : Int) != (x : Int)) = false := by simp [hy]
      have hyes : Hid (isTag l) := Lib.hid (HI.out.2 hy)
      clear hy
      go_enter Tryd.func43, Tryd.ntmps43
      go_wp2_with (first
        | (go_at_call 46; refine HK.out.mono ?_; rintro e w1 ⟨P, rfl, k1, k2⟩; have T1 := Lib.hid k1; have B1 := Lib.hid k2; have LP : Hid (w.heap.size ≤ P) := Lib.hid (by obtain ⟨_, _, _, h, _⟩ := k1; exact h); clear k1 k2)
        | (go_at_call 54; refine (HN.out P w1 T1.out).mono ?_; rintro e w2 ⟨rfl, k1, k2⟩; have T2 := Lib.hid k1; have B2 := Lib.hid (B1.out.trans (below_only k2 LP.out B1.out.size)); clear k1 k2)
        | (go_at_call 55; refine (HR.out P w2 T2.out).mono ?_; rintro e w3 ⟨⟨A3, c3, rfl, _, _, k0⟩, k1, k2⟩; have R3 := Lib.hid (Row.low k0 B2.out.size); have T3 := Lib.hid k1; have B3 := Lib.hid (B2.out.trans (below_only k2 LP.out B2.out.size)); clear k0 k1 k2)
        | (go_at_call 56; refine (HD.out P w3 T3.out).mono ?_; rintro e w4 ⟨rfl, rfl⟩)
        | (go_at_call 52; refine (HO.out A3 c3 w3 (HT.out.below B3.out) R3.out.reads).mono ?_; rintro e w5 ⟨rfl, k1⟩; have R5 := Lib.hid (R3.out.below k1); have B5 := Lib.hid (below_step B3.out k1); clear k1))
      go_ret2
      exact .inl ⟨hyes.out, A3, c3, rfl, R5.out, B5.out⟩
    · have hxy : ((y : Int) != (x : Int)) = true := by simp; omega
      have hno : Hid (¬ isTag l) := Lib.hid (fun h => hy (HI.out.1 h))
      clear hy
      go_enter Tryd.func43, Tryd.ntmps43
      go_wp2_with (first
        | (go_at_call 46; refine HK.out.mono ?_; rintro e w1 ⟨P, rfl, k1, k2⟩; have T1 := Lib.hid k1; have B1 := Lib.hid k2; have LP : Hid (w.heap.size ≤ P) := Lib.hid (by obtain ⟨_, _, _, h, _⟩ := k1; exact h); clear k1 k2)
        | (go_at_call 54; refine (HN.out P w1 T1.out).mono ?_; rintro e w2 ⟨rfl, k1, k2⟩; have T2 := Lib.hid k1; have B2 := Lib.hid (B1.out.trans (below_only k2 LP.out B1.out.size)); clear k1 k2)
        | (go_at_call 55; refine (HR.out P w2 T2.out).mono ?_; rintro e w3 ⟨⟨A3, c3, rfl, _, _, k0⟩, k1, k2⟩; have R3 := Lib.hid (Row.low k0 B2.out.size); have T3 := Lib.hid k1; have B3 := Lib.hid (B2.out.trans (below_only k2 LP.out B2.out.size)); clear k0 k1 k2)
        | (go_at_call 56; refine (HD.out P w3 T3.out).mono ?_; rintro e w4 ⟨rfl, rfl⟩)
        | (go_at_call 52; refine (HO.out A3 c3 w3 (HT.out.below B3.out) R3.out.reads).mono ?_; rintro e w5 ⟨rfl, k1⟩; have R5 := Lib.hid (R3.out.below k1); have B5 := Lib.hid (below_step B3.out k1); clear k1))
      go_ret2
      exact .inr ⟨hno.out, rfl, B5.out⟩

end Go.Proofs.YtnponjdnjkegmaaDoor
end

section
namespace Go.Proofs.YtnponjdnjkegmaaDoor
open Go.ChangeShapes Go.WideShapes Go.ChangeAt Go.RowKit Go.Deep
set_option linter.unusedVariables false

theorem own : ownKnob Tryd.prog.godebug = none := by kernel_rfl
theorem laidOut : laidOutB Tryd.prog = true := by kernel_rfl

section
variable {H : Type} {enc : TypeId × Value → H} {W : World} {base : Nat}

theorem arg_bytes {A : Option Addr} {n c : Nat} {d : DataW H} {p : List MemPlace} (h : DataW.Trod enc Tryd.prog W 0 (fun _ => true) true 31 (.slice A n c) d p) :
    ∃ l : List UInt8, Arg W A n c l := by
  obtain ⟨fuel, hf⟩ := h
  rcases open_ints Tryd.underlying31 Tryd.underlying5 (by kernel_rfl) hf with ⟨hcs, _⟩ | ⟨x, l, c', zs, hcs, _, hl, hm, hz, hx, hcell, hwz⟩
  · simp [Value.cells] at hcs
    obtain ⟨rfl, rfl, rfl⟩ := hcs
    exact ⟨[], rfl, Reads.empty, fun _ a ha => (by cases ha), Nat.le_refl _, Nat.zero_le _, fun _ => rfl⟩
  · simp [Value.cells] at hcs
    obtain ⟨rfl, rfl, rfl⟩ := hcs
    have hz' : zs.length = c := by simpa using hz
    obtain ⟨bs, hbl, hbm⟩ := bytes_of zs hwz
    have hat : ∀ i, i < zs.length → W.cell? (x.add i) = (zs.map (Value.int .u8))[i]? := fun i hi => by
      rw [hcell i hi]
      simp [hi]
    by_cases hc0 : c = 0
    · subst hc0
      have hn : n = 0 := by omega
      subst hn
      exact ⟨[], rfl, Reads.empty, fun h => absurd h (by omega), hl, hm, fun h => by cases h⟩
    · obtain ⟨b, off, spot⟩ := x
      have hspot : spot = none := by
        have := hcell 0 (by omega)
        simpa [Addr.add] using World.cell?_spot this
      subst hspot
      have hblk : b < W.heap.size := by
        have := hcell 0 (by omega)
        exact World.block_lt_of_cell? W _ (by simpa [Addr.add] using this)
      refine ⟨bs.take n, by simp; omega, fun hx => ⟨b, off, rfl, fun j u hj => ?_⟩, fun _ a ha => (by injection ha with ha; subst ha; exact hblk), hl, hm, fun h => by cases h⟩
      have hjn : j < n := by
        have := (List.getElem?_eq_some_iff.1 hj).1
        simp at this
        omega
      have h2 := hat j (by omega)
      rw [add_plain] at h2
      rw [h2, hbm]
      rw [List.map_take, List.getElem?_take, if_pos hjn] at hj
      exact hj
end

end Go.Proofs.YtnponjdnjkegmaaDoor
end

section
namespace Go.Proofs.YtnponjdnjkegmaaDoor
open Go.ChangeShapes Go.WideShapes Go.ChangeAt Go.RowKit
set_option linter.unusedVariables false

def tab : List Nat := [0, 498536548, 997073096, 651767980, 1994146192, 1802195444, 1303535960, 1342533948, 3988292384, 4027552580, 3604390888, 3412177804, 2607071920, 2262029012, 2685067896, 3183342108]
theorem tab_ok : ∀ i, i < 16 → tab[i]? = some (half i) := by decide
abbrev lay : List (String × DataW Unit) := [("jalousie/crc.effect", Rows.laid_jalousie_crc_effect)]
theorem lay_tab : (Rows.laid_jalousie_crc_effect : DataW Unit) = .agg (tab.map fun x : Nat => .lit (.int .u32 (x : Int))) := rfl
theorem gEff : Tryd.prog.globalNamed "jalousie/crc.effect" = some 0 := by kernel_rfl
theorem tEff : (Tryd.prog.globals[0]?).map (·.type) = some 122 := by kernel_rfl
theorem tab_of_laid {W : World} (h : laidMetH Tryd.prog lay W) : Tab W := by
  rw [MakeChecks.laidMetH_plain _ _ _ (by kernel_rfl)] at h
  obtain ⟨ps, ⟨g0, t0, cs0, f0, p0, q0, hg0, ht0, hv0, hd0, _, _⟩, _⟩ := h
  obtain rfl := Option.some.inj (gEff.symm.trans hg0)
  obtain rfl := Option.some.inj (tEff.symm.trans ht0)
  obtain ⟨xs, m1, rfl, hx1, hlen, hn, hel⟩ := DataW.trod_array Tryd.underlying122 hd0
  have c1 : Tryd.prog.cellsOf 74 = 1 := by kernel_rfl
  have c16 : Tryd.prog.cellsOf 122 = 16 := by kernel_rfl
  rw [c16] at hlen
  simp only [Prod.mk.injEq] at hx1
  have hx := hx1.1
  rw [lay_tab] at hx
  injection hx with hx
  intro i hi
  have he := hel i hi
  rw [c1, Nat.mul_one] at he
  obtain ⟨x, hxi⟩ : ∃ x, xs[i]? = some x := ⟨_, List.getElem?_eq_getElem (by omega)⟩
  obtain ⟨c, hci⟩ : ∃ c, cs0.toList[i]? = some c := ⟨_, List.getElem?_eq_getElem (by omega)⟩
  have hcl : (cs0.toList.drop i).take 1 = [c] := by
    obtain ⟨hlt, hget⟩ := List.getElem?_eq_some_iff.1 hci
    rw [List.drop_eq_getElem_cons hlt, hget]
    rfl
  rw [hcl, hxi] at he
  obtain ⟨k, hk1, hk2, _⟩ := DataW.trod_int Tryd.underlying74 he
  have hq : (xs.map (·.1))[i]? = some x.1 := by rw [List.getElem?_map, hxi]; rfl
  rw [← hx, List.getElem?_map, tab_ok i hi, hk2] at hq
  simp only [Option.map_some, Option.some.injEq, DataW.lit.injEq, Lit.int.injEq, true_and] at hq
  have hv := World.var?_cell hg0 hv0 i
  rw [hv, ← Array.getElem?_toList, hci]
  rw [(List.cons.inj hk1).1, hq]

theorem door_met (os : Os) (args : Array Value) : laidMetH Tryd.prog lay ((World.doorLaid Tryd.prog 14 os).forCall (fun _ _ => 0) ⟨#[], args, []⟩).memory :=
  laidMetH_of_parts3 (fuel := 8) (laidMet_of_run' 8 (by kernel_rfl) (by kernel_rfl)) (by kernel_rfl) (by kernel_rfl)

end Go.Proofs.YtnponjdnjkegmaaDoor
end

section
namespace Go.Proofs.YtnponjdnjkegmaaDoor
open Go.RowKit
set_option linter.unusedVariables false

theorem isTag_tag (l : List UInt8) : isTag (tagB l) := by
  have e : (tagB l).drop 4 = l := by
    unfold tagB
    have := List.drop_left (l₁ := numB (ofN l) 4) (l₂ := l)
    rwa [numB_len] at this
  exact ⟨by rw [tagB_len]; omega, by rw [e]⟩
def TagEnd (w : World) (l : List UInt8) (e : Ending) (w' : World) : Prop := ∃ A c, e = .returned (.tuple #[.slice A l.length c, .bool true]) ∧ Row w' 5 w.heap.size A (l.map byteV) ∧ Below w.heap.size w w'
theorem open_no (l : List UInt8) (w : World) (A : Option Addr) (n c : Nat) (htab : Tab w) (hn : n = l.length) (hc : n ≤ c) (hl : l.length ≤ 1000000) (ht : ¬ isTag l) (h : Reads w A (l.map byteV)) :
    Calls Tryd.prog 43 #[.slice A n c] w fun e w' => e = .returned (.tuple #[.slice none 0 0, .bool false]) ∧ Below w.heap.size w w' :=
  (cOpen_any A n c l w htab hn hc hl h).mono fun e w' hh => by
    rcases hh with ⟨hn, _⟩ | ⟨_, he, hb⟩
    · exact absurd hn ht
    · exact ⟨he, hb⟩

end Go.Proofs.YtnponjdnjkegmaaDoor
end

section
namespace Go.Proofs.YtnponjdnjkegmaaDoor
open Go.RowKit
set_option linter.unusedVariables false

def cSz : List (List UInt8) → Nat
  | [] => 0
  | c :: l => c.length + 1 + cSz l
theorem cSz_app (a b : List (List UInt8)) : cSz (a ++ b) = cSz a + cSz b := by
  induction a with
  | nil => simp [cSz]
  | cons c a ih => simp only [List.cons_append, cSz, ih]; omega
theorem cSz_len (l : List (List UInt8)) : l.length ≤ cSz l := by
  induction l with
  | nil => simp
  | cons c l ih => simp only [List.length_cons, cSz]; omega
theorem cSz_more {l : List (List UInt8)} {k : Nat} {c : List UInt8} (h : l[k]? = some c) : cSz (l.take (k + 1)) = cSz (l.take k) + (c.length + 1) := by
  obtain ⟨hk, hc⟩ := List.getElem?_eq_some_iff.1 h
  rw [List.take_succ_eq_append_getElem hk, hc, cSz_app]
  simp [cSz]
theorem cSz_take (l : List (List UInt8)) (k : Nat) : cSz (l.take k) ≤ cSz l := by
  have h := cSz_app (l.take k) (l.drop k)
  rw [List.take_append_drop] at h
  omega
theorem cSz_few (l : List (List UInt8)) (n m : Nat) (hn : l.length ≤ n) (hm : ∀ c ∈ l, c.length ≤ m) : cSz l ≤ n * (m + 1) := by
  have h : cSz l ≤ l.length * (m + 1) := by
    clear hn
    induction l with
    | nil => simp [cSz]
    | cons c l ih =>
      have h1 := hm c (List.mem_cons_self ..)
      have h2 := ih fun d hd => hm d (List.mem_cons_of_mem _ hd)
      simp only [List.length_cons, cSz, Nat.add_mul, Nat.one_mul] at *
      omega
  exact Nat.le_trans h (Nat.mul_le_mul_right _ hn)
def cBack (l : List (List UInt8)) : List UInt8 := l.reverse.flatten
theorem cBack_snoc (l : List (List UInt8)) (c : List UInt8) : cBack (l ++ [c]) = c ++ cBack l := by simp [cBack]
theorem cBack_cons (l : List (List UInt8)) (c : List UInt8) : cBack (c :: l) = cBack l ++ c := by simp [cBack]
theorem cBack_len (l : List (List UInt8)) : (cBack l).length + l.length = cSz l := by
  induction l with
  | nil => rfl
  | cons c l ih =>
    rw [cBack_cons, List.length_append, List.length_cons, cSz]
    omega
def cSlots (at_ : Nat) : List (List UInt8) → List UInt8
  | [] => []
  | c :: l => UInt8.ofNat (at_ - c.length) :: cSlots (at_ - c.length) l
theorem cSlots_len (l : List (List UInt8)) : ∀ at_, (cSlots at_ l).length = l.length := by
  induction l with
  | nil => intro _; rfl
  | cons c l ih => intro at_; simp [cSlots, ih]
theorem cSlots_snoc (l : List (List UInt8)) (c : List UInt8) : ∀ at_, cSlots at_ (l ++ [c]) = cSlots at_ l ++ [UInt8.ofNat (at_ - (cBack l).length - c.length)] := by
  induction l with
  | nil => intro at_; simp [cSlots, cBack]
  | cons d l ih =>
    intro at_
    simp only [List.cons_append, cSlots, ih, cBack_cons, List.length_append]
    congr 4
    omega
def cBody (kind : UInt8) (n : Nat) (l : List (List UInt8)) : List UInt8 := kind :: UInt8.ofNat n :: (cSlots 128 l ++ (List.replicate (122 - cSz l) 0 ++ cBack l))
theorem cBody_len (kind : UInt8) (n : Nat) (l : List (List UInt8)) (h : cSz l ≤ 122) : (cBody kind n l).length = 124 := by
  have := cBack_len l
  have := cSz_len l
  simp only [cBody, List.length_cons, List.length_append, List.length_replicate, cSlots_len]
  omega
def cPage (kind : UInt8) (l : List (List UInt8)) : List UInt8 := tagB (cBody kind l.length l)
theorem cPage_len (kind : UInt8) (l : List (List UInt8)) (h : cSz l ≤ 122) : (cPage kind l).length = 128 := by
  rw [cPage, tagB_len, cBody_len _ _ _ h]
def cFits (kind : UInt8) (l : List (List UInt8)) : Prop := kind ≠ 0 ∧ cSz l ≤ 122
instance (kind : UInt8) (l : List (List UInt8)) : Decidable (cFits kind l) := by unfold cFits; infer_instance

/-! ### The page while it is assembled -/
def cDraft (kind : UInt8) (n : Nat) (l : List (List UInt8)) : List UInt8 := [0, 0, 0, 0] ++ cBody kind n l
theorem cDraft_len (kind : UInt8) (n : Nat) (l : List (List UInt8)) (h : cSz l ≤ 122) : (cDraft kind n l).length = 128 := by
  rw [cDraft, List.length_append, cBody_len _ _ _ h]
  rfl
theorem cDraft_nil (kind : UInt8) (n : Nat) : cDraft kind n [] = [0, 0, 0, 0, kind, UInt8.ofNat n] ++ List.replicate 122 0 := by simp [cDraft, cBody, cSlots, cBack, cSz]
theorem cDraft_drop (kind : UInt8) (n : Nat) (l : List (List UInt8)) : (cDraft kind n l).drop 4 = cBody kind n l := rfl
theorem repl_add (a b : Nat) : List.replicate (a + b) (0 : UInt8) = List.replicate a 0 ++ List.replicate b 0 := by simp
theorem cDraft_step (kind : UInt8) (n : Nat) (l : List (List UInt8)) (c : List UInt8) (h : cSz l + (c.length + 1) ≤ 122) :
    splice ((cDraft kind n l).set (6 + l.length) (UInt8.ofNat (128 - (cBack l).length - c.length))) (128 - (cBack l).length - c.length) c = cDraft kind n (l ++ [c]) := by
  have hb := cBack_len l
  have e1 : 122 - cSz l = 1 + ((122 - cSz (l ++ [c])) + c.length) := by rw [cSz_app]; simp only [cSz]; omega
  have e0 : cDraft kind n l = ([0, 0, 0, 0, kind, UInt8.ofNat n] ++ cSlots 128 l) ++ ([0] ++ (List.replicate (122 - cSz (l ++ [c])) 0 ++ (List.replicate c.length 0 ++ cBack l))) := by
    unfold cDraft cBody
    rw [e1, repl_add 1, repl_add (122 - cSz (l ++ [c]))]
    simp only [List.append_assoc, List.cons_append, List.nil_append, List.replicate_one]
  have l0 : ([0, 0, 0, 0, kind, UInt8.ofNat n] ++ cSlots 128 l : List UInt8).length = 6 + l.length := by simp [cSlots_len]; omega
  generalize hs : UInt8.ofNat (128 - (cBack l).length - c.length) = s
  have e2 : (cDraft kind n l).set (6 + l.length) s = (([0, 0, 0, 0, kind, UInt8.ofNat n] ++ cSlots 128 l) ++ ([s] ++ List.replicate (122 - cSz (l ++ [c])) 0)) ++ (List.replicate c.length 0 ++ cBack l) := by
    rw [e0, List.set_append_right _ _ (by omega), l0, Nat.sub_self]
    simp
  have l2 : (([0, 0, 0, 0, kind, UInt8.ofNat n] ++ cSlots 128 l) ++ ([s] ++ List.replicate (122 - cSz (l ++ [c])) 0) : List UInt8).length = 128 - (cBack l).length - c.length := by
    rw [List.length_append, l0, cSz_app]
    simp only [List.length_append, List.length_replicate, List.length_cons, List.length_nil, cSz]
    omega
  rw [e2]
  unfold splice
  rw [List.take_append_of_le_length (by omega), List.take_of_length_le (by omega), ← l2, List.drop_append, List.drop_eq_nil_of_le (by omega), Nat.add_sub_cancel_left, List.nil_append,
    List.drop_append, List.drop_eq_nil_of_le (by simp), List.length_replicate, Nat.sub_self, List.drop_zero, List.nil_append]
  unfold cDraft cBody
  rw [cSlots_snoc, cBack_snoc, hs]
  simp

/-! ### Cells cut out of a page -/
def cCut (b : List UInt8) : List UInt8 → Nat → List (List UInt8)
  | [], _ => []
  | s :: ss, end_ => if s.toNat > end_ then [] else (b.drop s.toNat).take (end_ - s.toNat) :: cCut b ss s.toNat
theorem cCut_len (b : List UInt8) (ss : List UInt8) : ∀ end_, (cCut b ss end_).length ≤ ss.length := by
  induction ss with
  | nil => intro _; simp [cCut]
  | cons s ss ih =>
    intro end_
    simp only [cCut]
    split
    · simp
    · have := ih s.toNat
      simp only [List.length_cons]
      omega
def cCount (b : List UInt8) : Nat := (b[5]?.getD 0).toNat
def cKind (b : List UInt8) : UInt8 := b[4]?.getD 0
def cSlotsOf (b : List UInt8) : List UInt8 := (b.drop 6).take (cCount b)
def cCells (b : List UInt8) : List (List UInt8) := cCut b (cSlotsOf b) 128
theorem cCut_back (b : List UInt8) (l : List (List UInt8)) : ∀ end_, end_ ≤ 128 → (cBack l).length ≤ end_ → (b.drop (end_ - (cBack l).length)).take (cBack l).length = cBack l → cCut b (cSlots end_ l) end_ = l := by
  induction l with
  | nil => intro _ _ _ _; rfl
  | cons c l ih =>
    intro end_ h1 h2 h3
    rw [cBack_cons, List.length_append] at h2 h3
    have hs : (UInt8.ofNat (end_ - c.length)).toNat = end_ - c.length := by simp; omega
    have ha : (b.drop (end_ - c.length - (cBack l).length)).take (cBack l).length = cBack l := by
      have := congrArg (List.take (cBack l).length) h3
      rw [List.take_take, Nat.min_eq_left (by omega), List.take_left] at this
      rw [Nat.sub_sub, Nat.add_comm c.length]
      exact this
    have hc : (b.drop (end_ - c.length)).take c.length = c := by
      have := congrArg (List.drop (cBack l).length) h3
      rw [List.drop_left, List.drop_take, List.drop_drop] at this
      have e1 : end_ - ((cBack l).length + c.length) + (cBack l).length = end_ - c.length := by omega
      have e2 : (cBack l).length + c.length - (cBack l).length = c.length := by omega
      rw [e1, e2] at this
      exact this
    simp only [cSlots, cCut, hs]
    rw [if_neg (by omega)]
    have e3 : end_ - (end_ - c.length) = c.length := by omega
    rw [e3, hc, ih _ (by omega) (by omega) ha]
theorem tag_split (l : List UInt8) : ∃ a b c d, tagB l = [a, b, c, d] ++ l := ⟨_, _, _, _, rfl⟩
theorem cKind_page (kind : UInt8) (l : List (List UInt8)) : cKind (cPage kind l) = kind := by
  obtain ⟨a, b, c, d, h⟩ := tag_split (cBody kind l.length l)
  unfold cPage
  rw [h]
  rfl
theorem cCount_page (kind : UInt8) (l : List (List UInt8)) (h : cSz l ≤ 122) : cCount (cPage kind l) = l.length := by
  obtain ⟨a, b, c, d, hh⟩ := tag_split (cBody kind l.length l)
  have hl := cSz_len l
  unfold cPage
  rw [hh]
  show (UInt8.ofNat l.length).toNat = l.length
  simp
  omega
theorem cCells_page (kind : UInt8) (l : List (List UInt8)) (h : cSz l ≤ 122) : cCells (cPage kind l) = l := by
  have hlen := cPage_len kind l h
  have hn := cCount_page kind l h
  have hb := cBack_len l
  have hs : cSlotsOf (cPage kind l) = cSlots 128 l := by
    unfold cSlotsOf
    rw [hn]
    obtain ⟨a, b, c, d, hh⟩ := tag_split (cBody kind l.length l)
    unfold cPage
    rw [hh]
    show (cSlots 128 l ++ _).take l.length = _
    rw [List.take_append_of_le_length (by rw [cSlots_len]; omega), List.take_of_length_le (by rw [cSlots_len]; omega)]
  unfold cCells
  rw [hs]
  refine cCut_back _ l 128 (by omega) (by omega) ?_
  have hd : (cPage kind l).drop (128 - (cBack l).length) = cBack l := by
    obtain ⟨a, b, c, d, hh⟩ := tag_split (cBody kind l.length l)
    have e : cPage kind l = ([a, b, c, d, kind, UInt8.ofNat l.length] ++ cSlots 128 l ++ List.replicate (122 - cSz l) 0) ++ cBack l := by
      unfold cPage
      rw [hh]
      simp [cBody]
    have e2 : 128 - (cBack l).length = ([a, b, c, d, kind, UInt8.ofNat l.length] ++ cSlots 128 l ++ List.replicate (122 - cSz l) 0 : List UInt8).length := by
      have := congrArg List.length e
      rw [List.length_append, hlen] at this
      omega
    rw [e2, e, List.drop_left]
  rw [hd, List.take_of_length_le (Nat.le_refl _)]
def cForm (b : List UInt8) : Prop := cFits (cKind b) (cCells b) ∧ cPage (cKind b) (cCells b) = b
instance (b : List UInt8) : Decidable (cForm b) := by unfold cForm; infer_instance
theorem cForm_page {kind : UInt8} {l : List (List UInt8)} (h : cFits kind l) : cForm (cPage kind l) := by
  unfold cForm
  rw [cKind_page, cCells_page _ _ h.2]
  exact ⟨h, rfl⟩
theorem cForm_count {b : List UInt8} (h : cForm b) : (cCells b).length = cCount b := by
  have h1 := cCount_page (cKind b) (cCells b) h.1.2
  rw [h.2] at h1
  exact h1.symm
theorem cPage_inj {k k' : UInt8} {l l' : List (List UInt8)} (h : cSz l ≤ 122) (h' : cSz l' ≤ 122) : cPage k l = cPage k' l' ↔ k = k' ∧ l = l' := by
  constructor
  · intro e
    have e1 := congrArg cKind e
    have e2 := congrArg cCells e
    rw [cKind_page, cKind_page] at e1
    rw [cCells_page _ _ h, cCells_page _ _ h'] at e2
    exact ⟨e1, e2⟩
  · rintro ⟨rfl, rfl⟩; rfl
theorem isTag_page (kind : UInt8) (l : List (List UInt8)) : isTag (cPage kind l) := isTag_tag _
instance (l : List UInt8) : Decidable (isTag l) := by unfold isTag; infer_instance
def unpN (b : List UInt8) : UInt8 × List (List UInt8) × Int :=
  if b.length ≠ 128 then (0, [], 1) else if ¬ isTag b then (0, [], 12) else if ¬ cForm b then (0, [], 11) else (cKind b, cCells b, 0)
theorem unpN_no {b : List UInt8} (h : b.length = 128) (ht : isTag b) (hn : ¬ cForm b) : unpN b = (0, [], 11) := by
  unfold unpN
  rw [if_neg (by rw [h]; simp), if_neg (by simpa using ht), if_pos hn]
theorem unpN_yes {b : List UInt8} (h : b.length = 128) (ht : isTag b) (hn : cForm b) : unpN b = (cKind b, cCells b, 0) := by
  unfold unpN
  rw [if_neg (by rw [h]; simp), if_neg (by simpa using ht), if_neg (by simpa using hn)]
theorem unpN_page {kind : UInt8} {l : List (List UInt8)} (h : cFits kind l) : unpN (cPage kind l) = (kind, l, 0) := by
  unfold unpN
  rw [if_neg (by rw [cPage_len _ _ h.2]; simp), if_neg (by simpa using isTag_page kind l), if_neg (by simpa using cForm_page h), cKind_page, cCells_page _ _ h.2]

/-! ### A bit that is turned -/
theorem turned (l : List UInt8) (at_ : Nat) (h : at_ < l.length) (ht : isTag l) : ¬ isTag (l.set at_ (l[at_] ^^^ 1)) := by
  intro hh
  have hx : ∀ x : UInt8, x ^^^ 1 ≠ x := by
    intro x e
    have h2 : x ^^^ (x ^^^ 1) = x ^^^ x := by rw [e]
    rw [← UInt8.xor_assoc, UInt8.xor_self, UInt8.zero_xor] at h2
    exact absurd h2 (by decide)
  have e1 := ht.2
  have e2 := hh.2
  have l4 := ht.1
  have lb := onN_lt 0 (l.drop 4)
  unfold tagB at e1 e2
  by_cases h4 : at_ < 4
  · rw [List.drop_set, if_pos h4] at e2
    have e3 := e1.symm.trans (congrArg (numB (ofN (l.drop 4)) 4 ++ ·) rfl)
    rw [e1] at e2
    have e4 : l[at_]? = (l.set at_ (l[at_] ^^^ 1))[at_]? := by rw [← e2]
    rw [List.getElem?_set_self h, List.getElem?_eq_getElem h] at e4
    injection e4 with e4
    exact hx _ e4.symm
  · rw [List.drop_set, if_neg h4] at e2
    have t1 : numB (ofN (l.drop 4)) 4 = l.take 4 := by
      have := congrArg (List.take 4) e1
      rwa [List.take_append_of_le_length (by rw [numB_len]; omega), List.take_of_length_le (by rw [numB_len]; omega)] at this
    have t2 : numB (ofN ((l.drop 4).set (at_ - 4) (l[at_] ^^^ 1))) 4 = l.take 4 := by
      have := congrArg (List.take 4) e2
      rwa [List.take_append_of_le_length (by rw [numB_len]; omega), List.take_of_length_le (by rw [numB_len]; omega), List.take_set_of_le (by omega)] at this
    have e5 := t2.trans t1.symm
    have e6 := congrArg numOf e5
    rw [numOf_four _ (ofN_lt _), numOf_four _ (ofN_lt _)] at e6
    have hj : at_ - 4 < (l.drop 4).length := by simp; omega
    have hg : (l.drop 4)[at_ - 4] = l[at_] := by
      rw [List.getElem_drop]
      congr 1
      omega
    have hd := dg_xor (l.drop 4) (at_ - 4) 1 hj
    rw [hg] at hd
    refine burst (l.drop 4) _ (8 * (at_ - 4)) 1 (by simp) ?_ (by omega) (by decide) (by decide) e6
    rw [hd]
    congr 1
    have : (256 : Nat) = 2 ^ 8 := by decide
    rw [this, ← Nat.pow_mul, Nat.mul_one]
    simp

end Go.Proofs.YtnponjdnjkegmaaDoor
end
