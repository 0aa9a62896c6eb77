/- The document's Put and Get of layer 4: contracts, no statement. -/
import Derived.Test.YtbgpjboefnacgaaGrr
import Derived.Test.YtbgpjboefnacgaaReft
import Derived.Deep.RegionWith
import Derived.Deep.RegionHeld
import Derived.BigQuiet
namespace Go.Proofs.Ytbgpjboefnacgaa
open Go.RowKit
set_option linter.unusedVariables false

/-- A number in a byte. -/
def byteI (a : Int) : UInt8 := UInt8.ofNat (a % 256).toNat
def bytesG (l : List G) : List UInt8 := l.flatMap fun g => [byteI g.a, byteI g.f, byteI g.t]
def putG (l : List G) : List UInt8 := numB (l.take 255).length 1 ++ bytesG (l.take 255)
theorem bytesG_len (l : List G) : (bytesG l).length = 3 * l.length := by
  induction l with
  | nil => rfl
  | cons g l ih => simp [bytesG] at ih ⊢; omega
theorem bytesG_more (l : List G) (k : Nat) (h : k < l.length) : bytesG (l.take (k + 1)) = bytesG (l.take k) ++ [byteI l[k].a, byteI l[k].f, byteI l[k].t] := by
  unfold bytesG
  rw [List.take_succ_eq_append_getElem h, List.flatMap_append]
  rfl
theorem num_int (a : Int) : numB (a % 18446744073709551616).toNat 1 = [byteI a] := by
  have e : numB (a % 18446744073709551616).toNat 1 = [UInt8.ofNat ((a % 18446744073709551616).toNat / 256 ^ 0)] := rfl
  rw [e]
  unfold byteI
  congr 1
  apply UInt8.toNat_inj.1
  simp
  omega
theorem str_app3 (a b : List UInt8) : (⟨a.toArray⟩ : ByteArray) ++ ⟨b.toArray⟩ = ⟨(a ++ b).toArray⟩ := by
  apply ByteArray.ext
  simp
theorem str_val4 {a b : ByteArray} (h : a = b) : Value.string a = .string b := by rw [h]

theorem rNum_int (a : Int) (w : World) : Calls Try.prog 44 #[.int .u64 (a % 18446744073709551616), .int .i64 1] w fun e w' => e = .returned (.string ⟨([byteI a] : List UInt8).toArray⟩) ∧ Below w.heap.size w w' := by
  have h := rNum_yes (a % 18446744073709551616).toNat 1 w (by omega) (by omega) (by omega)
  rw [num_int] at h
  have e : (((a % 18446744073709551616).toNat : Nat) : Int) = a % 18446744073709551616 := by omega
  rw [e] at h
  exact h
theorem rNum_wrap (a : Int) (w : World) : Calls Try.prog 44 #[.int .u64 (IntKind.u64.wrap a), .int .i64 1] w fun e w' => e = .returned (.string ⟨([byteI a] : List UInt8).toArray⟩) ∧ Below w.heap.size w w' := by
  have e : IntKind.u64.wrap a = a % 18446744073709551616 := IntKind.wrap_u64 a
  rw [e]
  exact rNum_int a w
set_option maxRecDepth 100000 in
set_option maxHeartbeats 1000000 in
theorem r4Put_any (l : List G) (A : Option Addr) (n c : Nat) (w : World) (hl : ArgG w A n c l) (hn : n ≤ 1000000) :
    Calls Try.prog 23 #[.slice A n c] w fun e w' => e = .returned (.string ⟨(putG l).toArray⟩) ∧ Below w.heap.size w w' := by
  have HA := Lib.hid hl
  have HN := Lib.hid hl.len
  have hroom := hl.room
  have hmost := hl.most
  unfold maxLen at hmost
  clear hl
  obtain ⟨q, hq, hq2⟩ : ∃ q, q = (l.take 255).length ∧ q ≤ 255 := ⟨_, rfl, by simp; omega⟩
  have HQ := Lib.hid hq
  have hqn : q = min n 255 := by rw [hq, List.length_take, HN.out]; omega
  clear hq
  have hcase : (255 < n ∧ q = 255) ∨ (¬ 255 < n ∧ q = n) := by omega
  clear hqn
  have HNum := Lib.hid (fun w1 => rNum_yes q 1 w1 (by omega) (by omega) (by omega))
  have hqc : (q : Int) ≤ (c : Int) := by omega
  rcases hcase with ⟨h255, e⟩ | ⟨h255, e⟩
  case' inl => have e1 : decide (255 < (n : Int)) = true := by simp; omega
  case' inr => have e1 : decide (255 < (n : Int)) = false := by simp; omega
  · subst e
    go_enter Try.func23, Try.ntmps23
    go_wp2_with (first | (go_at_call 44; refine (HNum.out _).mono ?_; rintro e w2 ⟨rfl, h2⟩; have B2 := Lib.hid h2; clear h2))
    go_loopw [3, 4] (fun v i wr => ∃ k : Nat, k ≤ q ∧ i = .int .i64 k ∧ v = .string ⟨(numB q 1 ++ bytesG (l.take k)).toArray⟩ ∧ Below w.heap.size w wr) (fun _ i _ => q - (intOf i).toNat)
    case atStart => exact ⟨0, Nat.zero_le _, rfl, str_val4 (by simp [bytesG]), B2.out⟩
    case round =>
      obtain ⟨k, hk, rfl, rfl, hB⟩ := hrel
      have BD : Below w.heap.size w wr := hB
      have HB := Lib.hid hB
      clear hB
      by_cases hlt : k < q
      · have hkl : k < l.length := by have := HN.out; omega
        obtain ⟨b, off, rfl, c1, c2, c3⟩ := (HA.out.below HB.out).reads.gat hkl
        have HC := Lib.hid (fun w1 (h1 : Below w.heap.size w w1) => show w1.cell? ⟨b, off + k * 3, none⟩ = some (.int .i64 l[k].a) ∧ w1.cell? ⟨b, off + k * 3 + 1, none⟩ = some (.int .i64 l[k].f) ∧ w1.cell? ⟨b, off + k * 3 + 2, none⟩ = some (.int .i64 l[k].t) by
          obtain ⟨b', off', hA', h⟩ := (HA.out.below h1).reads.gat hkl
          injection hA' with hA'
          injection hA' with q5 q6
          subst q5 q6
          exact h)
        have HM := Lib.hid (bytesG_more l k hkl)
        have hsl : (numB q 1 ++ bytesG (l.take k)).length ≤ 800 := by
          rw [List.length_append, numB_len, bytesG_len, List.length_take]
          omega
        have HS : Hid (numB q 1 ++ bytesG (l.take (k + 1)) = (numB q 1 ++ bytesG (l.take k)) ++ [byteI l[k].a, byteI l[k].f, byteI l[k].t]) := Lib.hid (by rw [HM.out, List.append_assoc])
        generalize numB q 1 ++ bytesG (l.take k) = s at hsl HS ⊢
        have i0 : (0 : Int) ≤ (k : Int) := by omega
        have i1 : (k : Int) < (q : Int) := by omega
        clear HM
        generalize l[k] = y at c1 c2 c3 HC HS
        have N1 := Lib.hid (fun w1 => rNum_int y.a w1)
        have N2 := Lib.hid (fun w1 => rNum_int y.f w1)
        have N3 := Lib.hid (fun w1 => rNum_int y.t w1)
        have M1 := Lib.hid (fun w1 => rNum_wrap y.a w1)
        have M2 := Lib.hid (fun w1 => rNum_wrap y.f w1)
        have M3 := Lib.hid (fun w1 => rNum_wrap y.t w1)
        have h8 : ∀ z : UInt8, (([z] : List UInt8)).length ≤ 1 := fun z => Nat.le_refl _
        clear BD
        go_wp2
        have BQ := HB.out.drew
        have hS := HC.out _ BQ
        go_region_held (fun w' => w'.cell? ⟨b, off + k * 3, none⟩ = some (.int .i64 y.a) ∧ w'.cell? ⟨b, off + k * 3 + 1, none⟩ = some (.int .i64 y.f) ∧ w'.cell? ⟨b, off + k * 3 + 2, none⟩ = some (.int .i64 y.t)) (first | exact hS | assumption) (first
          | (go_at_call 44; (with_reducible refine (M1.out _).mono ?_); rintro e we ⟨rfl, be⟩; have hS := HC.out we (by repeat (first | exact BQ | refine below_step ?_ (by assumption))))
          | (go_at_call 44; (with_reducible refine (M2.out _).mono ?_); rintro e we ⟨rfl, be⟩; have hS := HC.out we (by repeat (first | exact BQ | refine below_step ?_ (by assumption))))
          | (go_at_call 44; (with_reducible refine (M3.out _).mono ?_); rintro e we ⟨rfl, be⟩; have hS := HC.out we (by repeat (first | exact BQ | refine below_step ?_ (by assumption))))
          | (go_at_call 44; (with_reducible refine (N1.out _).mono ?_); rintro e we ⟨rfl, be⟩; have hS := HC.out we (by repeat (first | exact BQ | refine below_step ?_ (by assumption))))
          | (go_at_call 44; (with_reducible refine (N2.out _).mono ?_); rintro e we ⟨rfl, be⟩; have hS := HC.out we (by repeat (first | exact BQ | refine below_step ?_ (by assumption))))
          | (go_at_call 44; (with_reducible refine (N3.out _).mono ?_); rintro e we ⟨rfl, be⟩; have hS := HC.out we (by repeat (first | exact BQ | refine below_step ?_ (by assumption)))))
        all_goals
          go_wp2
          go_roundw
          case rel => exact ⟨k + 1, by omega, by go_num, str_val4 (by rw [HS.out]; apply ByteArray.ext; simp), by repeat (first | exact BQ | refine below_step ?_ (by assumption))⟩
          case measure => simp [intOf]; omega
      · obtain rfl : k = q := by omega
        have HE : Hid (numB k 1 ++ bytesG (l.take k) = putG l) := Lib.hid (by
          unfold putG
          rw [← HQ.out, List.take_of_length_le (l := l) (i := k) (by have := HN.out; omega), List.take_of_length_le (l := l) (i := 255) (by have := HN.out; omega)])
        rw [HE.out]
        obtain ⟨w3, hw3⟩ : ∃ w3 : World, w3 = wr := ⟨_, rfl⟩
        subst hw3
        go_wp2
        go_ret
        exact ⟨rfl, HB.out⟩
  · subst e
    go_enter Try.func23, Try.ntmps23
    go_wp2_with (first | (go_at_call 44; refine (HNum.out _).mono ?_; rintro e w2 ⟨rfl, h2⟩; have B2 := Lib.hid h2; clear h2))
    go_loopw [3, 4] (fun v i wr => ∃ k : Nat, k ≤ 255 ∧ i = .int .i64 k ∧ v = .string ⟨(numB 255 1 ++ bytesG (l.take k)).toArray⟩ ∧ Below w.heap.size w wr) (fun _ i _ => 255 - (intOf i).toNat)
    case atStart => exact ⟨0, Nat.zero_le _, rfl, str_val4 (by simp [bytesG]), B2.out⟩
    case round =>
      obtain ⟨k, hk, rfl, rfl, hB⟩ := hrel
      have BD : Below w.heap.size w wr := hB
      have HB := Lib.hid hB
      clear hB
      by_cases hlt : k < 255
      · have hkl : k < l.length := by have := HN.out; omega
        obtain ⟨b, off, rfl, c1, c2, c3⟩ := (HA.out.below HB.out).reads.gat hkl
        have HC := Lib.hid (fun w1 (h1 : Below w.heap.size w w1) => show w1.cell? ⟨b, off + k * 3, none⟩ = some (.int .i64 l[k].a) ∧ w1.cell? ⟨b, off + k * 3 + 1, none⟩ = some (.int .i64 l[k].f) ∧ w1.cell? ⟨b, off + k * 3 + 2, none⟩ = some (.int .i64 l[k].t) by
          obtain ⟨b', off', hA', h⟩ := (HA.out.below h1).reads.gat hkl
          injection hA' with hA'
          injection hA' with q5 q6
          subst q5 q6
          exact h)
        have HM := Lib.hid (bytesG_more l k hkl)
        have hsl : (numB 255 1 ++ bytesG (l.take k)).length ≤ 800 := by
          rw [List.length_append, numB_len, bytesG_len, List.length_take]
          omega
        have HS : Hid (numB 255 1 ++ bytesG (l.take (k + 1)) = (numB 255 1 ++ bytesG (l.take k)) ++ [byteI l[k].a, byteI l[k].f, byteI l[k].t]) := Lib.hid (by rw [HM.out, List.append_assoc])
        generalize numB 255 1 ++ bytesG (l.take k) = s at hsl HS ⊢
        have i0 : (0 : Int) ≤ (k : Int) := by omega
        have i1 : (k : Int) < (255 : Int) := by omega
        clear HM
        generalize l[k] = y at c1 c2 c3 HC HS
        have N1 := Lib.hid (fun w1 => rNum_int y.a w1)
        have N2 := Lib.hid (fun w1 => rNum_int y.f w1)
        have N3 := Lib.hid (fun w1 => rNum_int y.t w1)
        have M1 := Lib.hid (fun w1 => rNum_wrap y.a w1)
        have M2 := Lib.hid (fun w1 => rNum_wrap y.f w1)
        have M3 := Lib.hid (fun w1 => rNum_wrap y.t w1)
        have h8 : ∀ z : UInt8, (([z] : List UInt8)).length ≤ 1 := fun z => Nat.le_refl _
        clear BD
        go_wp2
        have BQ := HB.out.drew
        have hS := HC.out _ BQ
        go_region_held (fun w' => w'.cell? ⟨b, off + k * 3, none⟩ = some (.int .i64 y.a) ∧ w'.cell? ⟨b, off + k * 3 + 1, none⟩ = some (.int .i64 y.f) ∧ w'.cell? ⟨b, off + k * 3 + 2, none⟩ = some (.int .i64 y.t)) (first | exact hS | assumption) (first
          | (go_at_call 44; (with_reducible refine (M1.out _).mono ?_); rintro e we ⟨rfl, be⟩; have hS := HC.out we (by repeat (first | exact BQ | refine below_step ?_ (by assumption))))
          | (go_at_call 44; (with_reducible refine (M2.out _).mono ?_); rintro e we ⟨rfl, be⟩; have hS := HC.out we (by repeat (first | exact BQ | refine below_step ?_ (by assumption))))
          | (go_at_call 44; (with_reducible refine (M3.out _).mono ?_); rintro e we ⟨rfl, be⟩; have hS := HC.out we (by repeat (first | exact BQ | refine below_step ?_ (by assumption))))
          | (go_at_call 44; (with_reducible refine (N1.out _).mono ?_); rintro e we ⟨rfl, be⟩; have hS := HC.out we (by repeat (first | exact BQ | refine below_step ?_ (by assumption))))
          | (go_at_call 44; (with_reducible refine (N2.out _).mono ?_); rintro e we ⟨rfl, be⟩; have hS := HC.out we (by repeat (first | exact BQ | refine below_step ?_ (by assumption))))
          | (go_at_call 44; (with_reducible refine (N3.out _).mono ?_); rintro e we ⟨rfl, be⟩; have hS := HC.out we (by repeat (first | exact BQ | refine below_step ?_ (by assumption)))))
        all_goals
          go_wp2
          go_roundw
          case rel => exact ⟨k + 1, by omega, by go_num, str_val4 (by rw [HS.out]; apply ByteArray.ext; simp), by repeat (first | exact BQ | refine below_step ?_ (by assumption))⟩
          case measure => simp [intOf]; omega
      · obtain rfl : k = 255 := by omega
        have HE : Hid (numB 255 1 ++ bytesG (l.take 255) = putG l) := Lib.hid (by
          unfold putG
          rw [← HQ.out])
        rw [HE.out]
        obtain ⟨w3, hw3⟩ : ∃ w3 : World, w3 = wr := ⟨_, rfl⟩
        subst hw3
        go_wp2
        go_ret
        exact ⟨rfl, HB.out⟩

/-! Get. -/
theorem Ginfo : (Try.prog.info? 29).map (fun i => (i.zero, i.size, i.bytes)) = some (some (.agg #[.int .i64 0, .int .i64 0, .int .i64 0]), 3, 24) := by kernel_rfl
/-- So many grants of three bytes, taken one by one. -/
def takeG : Nat → List UInt8 → Int → List G × List UInt8 × Int
  | 0, l, e => ([], l, e)
  | k + 1, l, e =>
    let r := takeG k l e
    let s1 := stN r.2.1 r.2.2 1
    let s2 := stN s1.2.1 s1.2.2 1
    let s3 := stN s2.2.1 s2.2.2 1
    (r.1 ++ [⟨s1.1, s2.1, s3.1⟩], s3.2.1, s3.2.2)
def getG4 (l : List UInt8) : List G × Int :=
  if (takeG (stN l 0 1).1 (stN l 0 1).2.1 (stN l 0 1).2.2).2.2 ≠ 0 then ([], (takeG (stN l 0 1).1 (stN l 0 1).2.1 (stN l 0 1).2.2).2.2)
  else if 64 < (stN l 0 1).1 ∨ (takeG (stN l 0 1).1 (stN l 0 1).2.1 (stN l 0 1).2.2).2.1 ≠ [] then ([], 11) else ((takeG (stN l 0 1).1 (stN l 0 1).2.1 (stN l 0 1).2.2).1, 0)
theorem takeG_len (k : Nat) (l : List UInt8) (e : Int) : (takeG k l e).1.length = k := by
  induction k with
  | zero => rfl
  | succ k ih => unfold takeG; simp [ih]
theorem takeG_rest (k : Nat) (l : List UInt8) (e : Int) : (takeG k l e).2.1.length ≤ l.length := by
  induction k with
  | zero => exact Nat.le_refl _
  | succ k ih => unfold takeG; exact Nat.le_trans (stN_len _ _ _) (Nat.le_trans (stN_len _ _ _) (Nat.le_trans (stN_len _ _ _) ih))
theorem own_notQ {w : World} {b Q : Nat} {e t : TypeId} {s n : Nat} {v : Value} {xs : List Value} {cs : Array Value} (h : w.ownsRow b e s v n xs) (hQ : Has w Q t cs) (hne : e ≠ t) : v.ownBlock ≠ some Q := by
  rcases h.2 with ⟨rfl, _⟩ | ⟨g, cap, cur, rfl, _, hg, _⟩
  · simp [Value.ownBlock]
  · simp only [Value.ownBlock]
    intro he
    injection he with he
    exact Has.apart (w := w) (g := g) (t := e) (cs := cur) hg hQ hne he
theorem cellsG_snoc (l : List G) (g : G) : cellsG (l ++ [g]) = cellsG l ++ [.int .i64 g.a, .int .i64 g.f, .int .i64 g.t] := by simp [cellsG, gC]
theorem argG_own {w : World} {B n : Nat} {v : Value} {l : List G} (h : w.ownsRow B 29 3 v n (cellsG l)) (hn : n = l.length) : ∃ A c, v = .slice A n c ∧ ArgG w A n c l := by
  rcases h.2 with ⟨rfl, rfl⟩ | ⟨g, cap, cur, rfl, hB, hg, h1, h2, _, hcur⟩
  · have : l = [] := List.eq_nil_of_length_eq_zero hn.symm
    subst this
    exact ⟨none, 0, rfl, rfl, fun hx => absurd hx (by simp [cellsG]), fun hx => absurd hx (by omega), Nat.le_refl _, Nat.zero_le _⟩
  · refine ⟨_, cap, rfl, hn, fun _ => ⟨g, 0, rfl, fun j u hj => ?_⟩, fun _ a ha => by injection ha with ha; subst ha; exact (Array.getElem?_eq_some_iff.1 hg).1, h1, h2⟩
    rw [Has.cell (w := w) (g := g) (t := 29) (cs := cur) hg]
    rw [← hcur, List.getElem?_take] at hj
    split at hj
    · simpa using hj
    · cases hj
theorem cells3_new (w : World) (a f t : Value) (ty : TypeId) : ∀ (j : Nat) (u : Value), ([a, f, t] : List Value)[j]? = some u → (w.alloc (.cells #[a, f, t] ty)).cell? ((⟨w.heap.size, 0, none⟩ : Addr).add j) = some u := by
  intro j u hj
  rw [add_plain, (Has.made w ty #[a, f, t]).cell]
  simpa using hj
def GetEnd4 (l : List G) (er : Int) (w : World) (e : Ending) (w' : World) : Prop := ∃ A n c, e = .returned (.tuple #[.slice A n c, .int .i64 er]) ∧ ArgG w' A n c l ∧ Below w.heap.size w w'
theorem argG_nil (w : World) : ArgG w none 0 0 [] := ⟨rfl, fun h => absurd h (by simp [cellsG]), fun h => absurd h (by omega), Nat.le_refl _, Nat.zero_le _⟩

set_option maxRecDepth 100000 in
set_option maxHeartbeats 1000000 in
theorem r4Get_any (l : List UInt8) (w : World) (hl : l.length ≤ 1000000) :
    Calls Try.prog 21 #[.string ⟨l.toArray⟩] w (GetEnd4 (getG4 l).1 (getG4 l).2 w) := by
  have hx1 := stN_one l 0
  have hl1 := stN_len l 0 1
  unfold getG4
  obtain ⟨x, l1, e1, hst⟩ : ∃ x l1 e1, stN l 0 1 = (x, l1, e1) := ⟨_, _, _, rfl⟩
  have HN := Lib.hid (fun Q w1 (h : RT w1 Q l 0) => rtNum_any Q l 0 1 w1 h hl)
  rw [hst] at hx1 hl1 HN ⊢
  simp only at hx1 hl1 HN ⊢
  clear hst
  obtain ⟨G4, hG⟩ : ∃ G4 : List G × Int, G4 = (if (takeG x l1 e1).2.2 ≠ 0 then ([], (takeG x l1 e1).2.2) else if 64 < x ∨ (takeG x l1 e1).2.1 ≠ [] then ([], 11) else ((takeG x l1 e1).1, 0)) := ⟨_, rfl⟩
  have HG := Lib.hid hG
  rw [← hG]
  clear hG
  obtain ⟨j0, hj, jz0, jz1, jz2⟩ := info_parts Ginfo
  go_enter Try.func21, Try.ntmps21
  have HRT : Hid (RT (w.alloc (.cells #[.string ⟨l.toArray⟩, .int .i64 0] 64)) w.heap.size l 0) := Lib.hid (Has.made _ _ _)
  go_wp2_with (first | (go_at_call 42; refine (HN.out w.heap.size _ HRT.out).mono ?_; rintro e w1 ⟨rfl, h1, h2⟩; have R1 := Lib.hid h1; have B1 := Lib.hid (((Below.refl w.heap.size w).alloc (Nat.le_refl _) (.cells #[.string ⟨l.toArray⟩, .int .i64 0] 64)).trans (below_only h2 (Nat.le_refl _) (by simp))); clear h1 h2))
  go_loopw [6, 7] (fun v i wr => ∃ k : Nat, k ≤ x ∧ i = .int .i64 k ∧ wr.ownsRow w.heap.size 29 3 v k (cellsG (takeG k l1 e1).1) ∧ RT wr w.heap.size (takeG k l1 e1).2.1 (takeG k l1 e1).2.2 ∧ Below w.heap.size w wr) (fun _ i _ => x - (intOf i).toNat)
  case atStart => exact ⟨0, Nat.zero_le _, rfl, World.ownsRow_nil _ _ _ _, R1.out, B1.out⟩
  case round =>
    obtain ⟨k, hk, rfl, hO, hT, hB⟩ := hrel
    have HO := Lib.hid hO
    have HT := Lib.hid hT
    have HB := Lib.hid hB
    clear hO hT hB
    by_cases hlt : k < x
    · have hrl := takeG_rest k l1 e1
      have HU : Hid (takeG (k + 1) l1 e1 = ((takeG k l1 e1).1 ++ [⟨(stN (takeG k l1 e1).2.1 (takeG k l1 e1).2.2 1).1, (stN (stN (takeG k l1 e1).2.1 (takeG k l1 e1).2.2 1).2.1 (stN (takeG k l1 e1).2.1 (takeG k l1 e1).2.2 1).2.2 1).1, (stN (stN (stN (takeG k l1 e1).2.1 (takeG k l1 e1).2.2 1).2.1 (stN (takeG k l1 e1).2.1 (takeG k l1 e1).2.2 1).2.2 1).2.1 (stN (stN (takeG k l1 e1).2.1 (takeG k l1 e1).2.2 1).2.1 (stN (takeG k l1 e1).2.1 (takeG k l1 e1).2.2 1).2.2 1).2.2 1).1⟩],
        (stN (stN (stN (takeG k l1 e1).2.1 (takeG k l1 e1).2.2 1).2.1 (stN (takeG k l1 e1).2.1 (takeG k l1 e1).2.2 1).2.2 1).2.1 (stN (stN (takeG k l1 e1).2.1 (takeG k l1 e1).2.2 1).2.1 (stN (takeG k l1 e1).2.1 (takeG k l1 e1).2.2 1).2.2 1).2.2 1).2.1,
        (stN (stN (stN (takeG k l1 e1).2.1 (takeG k l1 e1).2.2 1).2.1 (stN (takeG k l1 e1).2.1 (takeG k l1 e1).2.2 1).2.2 1).2.1 (stN (stN (takeG k l1 e1).2.1 (takeG k l1 e1).2.2 1).2.1 (stN (takeG k l1 e1).2.1 (takeG k l1 e1).2.2 1).2.2 1).2.2 1).2.2)) := Lib.hid rfl
      generalize takeG k l1 e1 = T at HO HT HU hrl
      obtain ⟨lg, lr, er⟩ := T
      simp only at HO HT HU hrl
      have H1 := Lib.hid (fun w1 (h : RT w1 w.heap.size lr er) => rtNum_any w.heap.size lr er 1 w1 h (by omega))
      have b1 := stN_one lr er
      have q1 := stN_len lr er 1
      generalize stN lr er 1 = s1 at H1 HU b1 q1
      obtain ⟨x1, r1, y1⟩ := s1
      simp only at H1 HU b1 q1
      have H2 := Lib.hid (fun w1 (h : RT w1 w.heap.size r1 y1) => rtNum_any w.heap.size r1 y1 1 w1 h (by omega))
      have b2 := stN_one r1 y1
      have q2 := stN_len r1 y1 1
      generalize stN r1 y1 1 = s2 at H2 HU b2 q2
      obtain ⟨x2, r2, y2⟩ := s2
      simp only at H2 HU b2 q2
      have H3 := Lib.hid (fun w1 (h : RT w1 w.heap.size r2 y2) => rtNum_any w.heap.size r2 y2 1 w1 h (by omega))
      have b3 := stN_one r2 y2
      generalize stN r2 y2 1 = s3 at H3 HU b3
      obtain ⟨x3, r3, y3⟩ := s3
      simp only at H3 HU b3
      clear hrl q1 q2
      go_wp2_with (first
        | (go_at_call 42; (with_reducible refine (H1.out _ HT.out).mono ?_); rintro e w2 ⟨rfl, h1, h2⟩; have R2 := Lib.hid h1; have O2 := Lib.hid (HO.out.kept h2 (.inr (own_notQ HO.out HT.out (by decide)))); have B2 := Lib.hid (HB.out.trans (below_only h2 (Nat.le_refl _) HB.out.size)); clear h1 h2)
        | (go_at_call 42; (with_reducible refine (H2.out _ R2.out).mono ?_); rintro e w3 ⟨rfl, h1, h2⟩; have R3 := Lib.hid h1; have O3 := Lib.hid (O2.out.kept h2 (.inr (own_notQ O2.out R2.out (by decide)))); have B3 := Lib.hid (B2.out.trans (below_only h2 (Nat.le_refl _) B2.out.size)); clear h1 h2)
        | (go_at_call 42; (with_reducible refine (H3.out _ R3.out).mono ?_); rintro e w4 ⟨rfl, h1, h2⟩; have R4 := Lib.hid h1; have O4 := Lib.hid (O3.out.kept h2 (.inr (own_notQ O3.out R3.out (by decide)))); have B4 := Lib.hid (B3.out.trans (below_only h2 (Nat.le_refl _) B3.out.size)); clear h1 h2)
        | (at_builtin; refine wpList_append_own _ rfl _ _ 23 rfl w.heap.size 29 j0 (.agg #[.int .i64 0, .int .i64 0, .int .i64 0]) 3 24 Try.underlying23 hj jz0 jz1 jz2 rfl (by decide) _ k _ rfl (O4.out.alloc _) ⟨w4.heap.size, 0, none⟩ 1 1 [.int .i64 (x1 : Int), .int .i64 (x2 : Int), .int .i64 (x3 : Int)] rfl rfl ?_ ?_ ?_ ?_ ?_ ?_; (exact cells3_new _ _ _ _ _); (intro u hu; simp at hu; rcases hu with rfl | rfl | rfl <;> rfl); (unfold maxLen; omega); (omega); (have hq := B4.out.size; simp; omega); intro v5 w5 h7 h8 h9; have O5 := Lib.hid h7; have R5 := Lib.hid ((Has.alloc R4.out (.cells #[.int .i64 (x1 : Int), .int .i64 (x2 : Int), .int .i64 (x3 : Int)] 29)).grown h8 (fun e => own_notQ O4.out R4.out (by decide) e.symm)); have B5 := Lib.hid (below_own (B4.out.alloc B4.out.size (.cells #[.int .i64 (x1 : Int), .int .i64 (x2 : Int), .int .i64 (x3 : Int)] 29)) h8 (O4.out.alloc (.cells #[.int .i64 (x1 : Int), .int .i64 (x2 : Int), .int .i64 (x3 : Int)] 29)) (by have := B4.out.size; simp; omega)); clear h7 h8 h9))
      go_roundw
      case rel =>
        refine ⟨k + 1, by omega, by go_num, ?_, ?_, B5.out⟩
        · rw [HU.out, cellsG_snoc]
          exact O5.out
        · rw [HU.out]
          exact R5.out
      case measure => simp [intOf]; omega
    · obtain rfl : k = x := by omega
      obtain ⟨w3, hw3⟩ : ∃ w3 : World, w3 = wr := ⟨_, rfl⟩
      subst hw3
      obtain ⟨A', c', hv, ha⟩ := argG_own HO.out (takeG_len k l1 e1).symm
      have HQ := Lib.hid ha
      subst hv
      clear ha HO
      generalize takeG k l1 e1 = S at HT HQ HG
      obtain ⟨ul, rl, er⟩ := S
      have c0 : w3.cell? ⟨w.heap.size, 0, none⟩ = some (.string ⟨rl.toArray⟩) := Has.cell0 HT.out
      have c1 : w3.cell? ⟨w.heap.size, 1, none⟩ = some (.int .i64 er) := Has.cell1 HT.out
      by_cases h0 : er = 0
      · subst h0
        by_cases h64 : 64 < k
        · have q1 : decide (64 < (k : Int)) = true := by simp; omega
          have HE : Hid (G4 = ([], 11)) := Lib.hid (by rw [HG.out]; simp [h64])
          go_wp2
          all_goals
            (try go_region)
            go_wp2
            go_ret2
            rw [HE.out]
            first | exact ⟨_, _, _, rfl, argG_nil _, HB.out⟩ | exact ⟨_, _, _, rfl, argG_nil _, HB.out.drew⟩
        · have q1 : decide (64 < (k : Int)) = false := by simp; omega
          rcases rl with _ | ⟨d, rl⟩
          · have HE : Hid (G4 = (ul, 0)) := Lib.hid (by rw [HG.out]; simp [h64])
            go_wp2
            go_ret2
            rw [HE.out]
            exact ⟨_, _, _, rfl, HQ.out, HB.out⟩
          · have HE : Hid (G4 = ([], 11)) := Lib.hid (by rw [HG.out]; simp)
            go_wp2
            go_ret2
            rw [HE.out]
            exact ⟨_, _, _, rfl, argG_nil _, HB.out⟩
      · have q2 : (er != 0) = true := by simpa using h0
        have HE : Hid (G4 = ([], er)) := Lib.hid (by rw [HG.out]; simp [h0])
        clear h0
        go_wp2
        go_region
        all_goals
          go_wp2
          go_ret2
          rw [HE.out]
          exact ⟨_, _, _, rfl, argG_nil _, HB.out.drew⟩

end Go.Proofs.Ytbgpjboefnacgaa
