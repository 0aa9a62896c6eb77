import Derived.Test.YtdoabcbembinjaaDoorJ09
import Derived.Test.YtdoabcbembinjaaDoorJCef
import Derived.Test.YtdoabcbembinjaaDoorJ04
/- Of a claim's texts, joined: Chs. No statement but in the last. -/
namespace Go.Proofs.YtdoabcbembinjaaDoor
open Go.RowKit
set_option linter.unusedVariables false

def u64N9 (x : Int) : Nat := (IntKind.u64.wrap x).toNat
theorem u64l9 (x : Int) : u64N9 x < 18446744073709551616 := by unfold u64N9; rw [IntKind.wrap_u64]; omega
theorem u64w9 (x : Int) : IntKind.u64.wrap x = ((u64N9 x : Nat) : Int) := by rw [IntKind.wrap_u64]; unfold u64N9; rw [IntKind.wrap_u64]; omega
theorem u64s9 {x : Int} (h0 : 0 ≤ x) (h1 : x ≤ 999) : u64N9 x = x.toNat := by unfold u64N9; rw [IntKind.wrap_u64]; omega
def rPg (s : List UInt8) (l : List Int) (k : Nat) : List UInt8 := cPage 3 [numB (u64N9 (l.getD (k + 1) 0)) 2 ++ partL s k]
theorem rPg_ok {s : List UInt8} {l : List Int} (h : okP l) (k : Nat) : rPg s l k = pageN s l k := by
  unfold rPg pageN cellN
  by_cases hk : k + 1 < l.length
  · have h1 := okP_pg h (k := k + 1) (x := l.getD (k + 1) 0) (by rw [List.getD_eq_getElem?_getD, List.getElem?_eq_getElem hk]; rfl)
    rw [u64s9 (by omega) (by omega)]
  · have e : l.getD (k + 1) 0 = 0 := by rw [List.getD_eq_getElem?_getD, List.getElem?_eq_none (by omega)]; rfl
    rw [e, u64s9 (by decide) (by decide)]
def RPutEnd (s : List UInt8) (l : List Int) (w : World) (e : Ending) (w' : World) : Prop :=
  ∃ A n c, e = .returned (.tuple #[.slice A n c, .int .i64 (putN s l).2]) ∧ TxtA w' A n (putN s l).1 ∧ Below w.heap.size w w'
theorem RPutEnd.no {s : List UInt8} {l : List Int} {w w' : World} (hg : ¬ goodP s l) (hb : Below w.heap.size w w') : RPutEnd s l w (.returned (.tuple #[.slice none 0 0, .int .i64 1])) w' := by
  have hp : putN s l = ([], 1) := by unfold putN; rw [if_neg hg]
  unfold RPutEnd
  rw [hp]
  exact ⟨none, 0, 0, rfl, ⟨rfl, Reads.empty⟩, hb⟩
theorem okTo_not {l : List Int} {k : Nat} (hk : k < l.length) (h : ¬ (pgOk (l.getD k 0) = true ∧ l.getD k 0 ∉ l.take k)) : ¬ okP l := fun ho => h (ho k hk)
set_option maxRecDepth 100000 in
set_option maxHeartbeats 4000000 in
theorem r9Put_long (s : List UInt8) (g off : Nat) (n c : Nat) (l : List Int) (w : World) (h : Ints6 w (some ⟨g, off, none⟩) n l) (hc : n ≤ c) (hcm : c ≤ maxLen) (hl : lgB s.length = true) (hn : n = needN s.length) :
    Calls Tryd.prog 10 #[.string ⟨s.toArray⟩, .slice (some ⟨g, off, none⟩) n c] w (RPutEnd s l w) := by
  have hmx : Tryd.prog.follows .mixedOrders = true := by kernel_rfl
  obtain ⟨j0, hj, jz0, jz1, jz2⟩ := info_parts stinfo
  obtain ⟨hne, hs1, hs2⟩ := need_pos hl
  rw [Int.toNat_natCast] at hne
  have hn2 : 1 ≤ n := by omega
  have hn3 : n ≤ 4 := by omega
  have HND := Lib.hid (r9Need_any (s.length : Int) w)
  rw [← hn] at HND
  have HPL : Hid (∀ k, k < n → 119 * k < s.length) := Lib.hid (fun k hk => by omega)
  have HA := Lib.hid h
  have HLN := Lib.hid h.len
  have HN := Lib.hid hn
  have HL := Lib.hid hl
  have hz : (⟨s.toArray⟩ : ByteArray).size = s.length := size_list s
  obtain ⟨sb, hsb⟩ : ∃ sb : ByteArray, (⟨s.toArray⟩ : ByteArray) = sb := ⟨_, rfl⟩
  rw [hsb] at hz ⊢
  have HSB := Lib.hid hsb
  have hn0 : ((n : Int) == 0) = false := by simp; omega
  clear h hn hl hne hsb
  go_enter Tryd.func10, Tryd.ntmps10
  go_wp2_with (go_at_call 12; (with_reducible refine HND.out.mono ?_); rintro e w1 ⟨rfl, rfl⟩)
  go_loopw [7, 8] (fun v i wr => ∃ k : Nat, k ≤ n ∧ i = .int .i64 k ∧ okTo l k ∧ wr.ownsRow w.heap.size 9 1 v k (((List.range k).map (rPg s l)).map cstV) ∧ Below w.heap.size w wr) (fun _ i _ => n - (intOf i).toNat)
  case atStart => exact ⟨0, Nat.zero_le _, rfl, fun j hj => absurd hj (by omega), st_own_nil _ _, Below.refl _ _⟩
  case round =>
    obtain ⟨k, hk, rfl, hok, ho, hb⟩ := hrel
    have HOK := Lib.hid hok
    have HO := Lib.hid ho
    have HB := Lib.hid hb
    clear hok ho hb
    by_cases hlt : k < n
    · have hkl : k < l.length := by rw [← HLN.out]; exact hlt
      have hAr := HA.out.below9 HB.out
      have hrd : wr.cell? ⟨g, off + k, none⟩ = some (.int .i64 l[k]) := by
        obtain ⟨g', off', e, hc⟩ := hAr.at_ (List.getElem?_eq_getElem hkl)
        injection e with e
        injection e with e1 e2 _
        subst e1 e2
        exact hc
      have HX : Hid (l.getD k 0 = l[k]) := Lib.hid (by rw [List.getD_eq_getElem?_getD, List.getElem?_eq_getElem hkl]; rfl)
      have HYC : Hid (k + 1 < n → ∀ y, l.getD (k + 1) 0 = y → wr.cell? ⟨g, off + (k + 1), none⟩ = some (.int .i64 y)) := Lib.hid (fun hk1 y hy => by
        have hkl1 : k + 1 < l.length := by rw [← HLN.out]; exact hk1
        obtain ⟨g', off', e, hc⟩ := hAr.at_ (List.getElem?_eq_getElem hkl1)
        injection e with e
        injection e with e1 e2 _
        subst e1 e2
        rw [hc, ← hy, List.getD_eq_getElem?_getD, List.getElem?_eq_getElem hkl1]
        rfl)
      have HY0 : Hid (¬ k + 1 < n → ∀ y, l.getD (k + 1) 0 = y → y = 0) := Lib.hid (fun hk1 y hy => by
        rw [← hy, List.getD_eq_getElem?_getD, List.getElem?_eq_none (by rw [← HLN.out]; omega)]
        rfl)
      have HHS := Lib.hid (fun w1 (hb1 : Below wr.heap.size wr w1) => r9has_any (some ⟨g, off, none⟩) k c (l.take k) l[k] w1 ((hAr.below9 hb1).take hk) (by omega))
      have HNO : Hid ((¬ (pgOk (l.getD k 0) = true ∧ l.getD k 0 ∉ l.take k)) → RPutEnd s l w (.returned (.tuple #[.slice none 0 0, .int .i64 1])) wr.drew) := Lib.hid (fun hx => RPutEnd.no (fun hg => okTo_not hkl hx hg.2.2) HB.out.drew)
      rw [HX.out] at HNO
      generalize l[k] = x at hrd HX HHS HNO
      have hSd : (fun w' : World => w'.cell? ⟨g, off + k, none⟩ = some (.int .i64 x)) wr.drew := hrd
      have i0 : (0 : Int) ≤ (k : Int) := by omega
      have i1 : (k : Int) < (n : Int) := by omega
      have hkc : k ≤ c := by omega
      have hkcI : (k : Int) ≤ (c : Int) := by omega
      clear hAr hkl
      by_cases hx1 : x < 2
      · have HBAD : Hid (¬ (pgOk x = true ∧ x ∉ l.take k)) := Lib.hid (by
          unfold pgOk
          rintro ⟨h1, _⟩
          simp at h1
          omega)
        go_wp2
        rename_i K hK
        refine wp_held (fun w' : World => w'.cell? ⟨g, off + k, none⟩ = some (.int .i64 x)) K hmx ?_ (fun _ _ h => h)
        refine wpAnyH_take (i := 0) (v := .slice (some ⟨g, off, none⟩) n c) rfl (by kernel_rfl) (by kernel_rfl) (by kernel_rfl) (fun _ _ _ h => h) (Or.inl ⟨by rfl, ?_⟩) hSd ?_
        · rintro w6 k1
          go_simp
        simp only [Act.put, List.setIfInBounds_toArray, List.set_cons_zero, List.set_cons_succ, List.getElem_toArray, List.getElem_cons_zero]
        refine wpAnyH_take (i := 1) (v := .int .i64 (k : Int)) rfl (by kernel_rfl) (by kernel_rfl) (by kernel_rfl) (fun _ _ _ h => h) (Or.inl ⟨by rfl, ?_⟩) hSd ?_
        · rintro w6 k1
          go_simp
        simp only [Act.put, List.setIfInBounds_toArray, List.set_cons_zero, List.set_cons_succ, List.getElem_toArray, List.getElem_cons_zero, List.getElem_cons_succ]
        refine wpAnyH_take (i := 2) (v := .pointer (some ⟨g, off + k, none⟩)) rfl (by kernel_rfl) (by kernel_rfl) (by kernel_rfl) (fun _ _ _ h => h) (Or.inl ⟨by rfl, ?_⟩) hSd ?_
        · rintro w6 k1
          go_simp
        simp only [Act.put, List.setIfInBounds_toArray, List.set_cons_zero, List.set_cons_succ, List.getElem_toArray, List.getElem_cons_zero, List.getElem_cons_succ]
        refine wpAnyH_take (i := 3) (v := .int .i64 x) rfl (by kernel_rfl) (by kernel_rfl) (by kernel_rfl) (fun _ _ _ h => h) (Or.inl ⟨by rfl, ?_⟩) hSd ?_
        · rintro w6 k1
          go_simp
        simp only [Act.put, List.setIfInBounds_toArray, List.set_cons_zero, List.set_cons_succ, List.getElem_toArray, List.getElem_cons_zero, List.getElem_cons_succ]
        refine wpAnyH_take (i := 4) (v := .bool true) rfl (by kernel_rfl) (by kernel_rfl) (by kernel_rfl) (fun _ _ _ h => h) (Or.inl ⟨by rfl, ?_⟩) hSd ?_
        · rintro w6 k1
          go_simp
        simp only [Act.put, List.setIfInBounds_toArray, List.set_cons_zero, List.set_cons_succ, List.getElem_toArray, List.getElem_cons_zero, List.getElem_cons_succ]
        refine wpAnyH_take (i := 5) (v := .bool true) rfl (by kernel_rfl) (by kernel_rfl) (by kernel_rfl) (fun _ _ _ h => h) (Or.inl ⟨by rfl, ?_⟩) hSd ?_
        · rintro w6 k1
          go_simp
        simp only [Act.put, List.setIfInBounds_toArray, List.set_cons_zero, List.set_cons_succ, List.getElem_toArray, List.getElem_cons_zero, List.getElem_cons_succ]
        refine wpAnyH_take (i := 6) (v := undef) rfl (by kernel_rfl) (by kernel_rfl) (by kernel_rfl) (fun _ _ _ h => h) (Or.inr ⟨by rfl, rfl⟩) hSd ?_
        simp only [Act.put, List.setIfInBounds_toArray, List.set_cons_zero, List.set_cons_succ, List.getElem_toArray, List.getElem_cons_zero, List.getElem_cons_succ]
        refine wpAnyH_take (i := 7) (v := undef) rfl (by kernel_rfl) (by kernel_rfl) (by kernel_rfl) (fun _ _ _ h => h) (Or.inr ⟨by rfl, rfl⟩) hSd ?_
        simp only [Act.put, List.setIfInBounds_toArray, List.set_cons_zero, List.set_cons_succ, List.getElem_toArray, List.getElem_cons_zero, List.getElem_cons_succ]
        refine wpAnyH_take (i := 8) (v := undef) rfl (by kernel_rfl) (by kernel_rfl) (by kernel_rfl) (fun _ _ _ h => h) (Or.inr ⟨by rfl, rfl⟩) hSd ?_
        simp only [Act.put, List.setIfInBounds_toArray, List.set_cons_zero, List.set_cons_succ, List.getElem_toArray, List.getElem_cons_zero, List.getElem_cons_succ]
        refine wpAnyH_take (i := 9) (v := undef) rfl (by kernel_rfl) (by kernel_rfl) (by kernel_rfl) (fun _ _ _ h => h) (Or.inr ⟨by rfl, rfl⟩) hSd ?_
        simp only [Act.put, List.setIfInBounds_toArray, List.set_cons_zero, List.set_cons_succ, List.getElem_toArray, List.getElem_cons_zero, List.getElem_cons_succ]
        refine wpAnyH_take (i := 10) (v := undef) rfl (by kernel_rfl) (by kernel_rfl) (by kernel_rfl) (fun _ _ _ h => h) (Or.inr ⟨by rfl, rfl⟩) hSd ?_
        simp only [Act.put, List.setIfInBounds_toArray, List.set_cons_zero, List.set_cons_succ, List.getElem_toArray, List.getElem_cons_zero, List.getElem_cons_succ]
        refine wpAnyH_take (i := 11) (v := .bool true) rfl (by kernel_rfl) (by kernel_rfl) (by kernel_rfl) (fun _ _ _ h => h) (Or.inl ⟨by rfl, ?_⟩) hSd ?_
        · rintro w6 k1
          go_simp
        simp only [Act.put, List.setIfInBounds_toArray, List.set_cons_zero, List.set_cons_succ, List.getElem_toArray, List.getElem_cons_zero, List.getElem_cons_succ]
        refine wpAnyH_take (i := 12) (v := .bool true) rfl (by kernel_rfl) (by kernel_rfl) (by kernel_rfl) (fun _ _ _ h => h) (Or.inl ⟨by rfl, ?_⟩) hSd ?_
        · rintro w6 k1
          go_simp
        simp only [Act.put, List.setIfInBounds_toArray, List.set_cons_zero, List.set_cons_succ, List.getElem_toArray, List.getElem_cons_zero, List.getElem_cons_succ]
        refine wpAnyH_take (i := 13) (v := undef) rfl (by kernel_rfl) (by kernel_rfl) (by kernel_rfl) (fun _ _ _ h => h) (Or.inr ⟨by rfl, rfl⟩) hSd ?_
        simp only [Act.put, List.setIfInBounds_toArray, List.set_cons_zero, List.set_cons_succ, List.getElem_toArray, List.getElem_cons_zero, List.getElem_cons_succ]
        refine wpAnyH_take (i := 14) (v := undef) rfl (by kernel_rfl) (by kernel_rfl) (by kernel_rfl) (fun _ _ _ h => h) (Or.inr ⟨by rfl, rfl⟩) hSd ?_
        simp only [Act.put, List.setIfInBounds_toArray, List.set_cons_zero, List.set_cons_succ, List.getElem_toArray, List.getElem_cons_zero, List.getElem_cons_succ]
        refine wpAnyH_take (i := 15) (v := undef) rfl (by kernel_rfl) (by kernel_rfl) (by kernel_rfl) (fun _ _ _ h => h) (Or.inr ⟨by rfl, rfl⟩) hSd ?_
        simp only [Act.put, List.setIfInBounds_toArray, List.set_cons_zero, List.set_cons_succ, List.getElem_toArray, List.getElem_cons_zero, List.getElem_cons_succ]
        refine wpAnyH_take (i := 16) (v := undef) rfl (by kernel_rfl) (by kernel_rfl) (by kernel_rfl) (fun _ _ _ h => h) (Or.inr ⟨by rfl, rfl⟩) hSd ?_
        simp only [Act.put, List.setIfInBounds_toArray, List.set_cons_zero, List.set_cons_succ, List.getElem_toArray, List.getElem_cons_zero, List.getElem_cons_succ]
        refine wpAnyH_take (i := 17) (v := undef) rfl (by kernel_rfl) (by kernel_rfl) (by kernel_rfl) (fun _ _ _ h => h) (Or.inr ⟨by rfl, rfl⟩) hSd ?_
        simp only [Act.put, List.setIfInBounds_toArray, List.set_cons_zero, List.set_cons_succ, List.getElem_toArray, List.getElem_cons_zero, List.getElem_cons_succ]
        refine wpAnyH_take (i := 18) (v := undef) rfl (by kernel_rfl) (by kernel_rfl) (by kernel_rfl) (fun _ _ _ h => h) (Or.inr ⟨by rfl, rfl⟩) hSd ?_
        simp only [Act.put, List.setIfInBounds_toArray, List.set_cons_zero, List.set_cons_succ, List.getElem_toArray, List.getElem_cons_zero, List.getElem_cons_succ]
        refine wpAnyH_take (i := 19) (v := undef) rfl (by kernel_rfl) (by kernel_rfl) (by kernel_rfl) (fun _ _ _ h => h) (Or.inr ⟨by rfl, rfl⟩) hSd ?_
        simp only [Act.put, List.setIfInBounds_toArray, List.set_cons_zero, List.set_cons_succ, List.getElem_toArray, List.getElem_cons_zero, List.getElem_cons_succ]
        refine wpAnyH_take (i := 20) (v := undef) rfl (by kernel_rfl) (by kernel_rfl) (by kernel_rfl) (fun _ _ _ h => h) (Or.inr ⟨by rfl, rfl⟩) hSd ?_
        simp only [Act.put, List.setIfInBounds_toArray, List.set_cons_zero, List.set_cons_succ, List.getElem_toArray, List.getElem_cons_zero, List.getElem_cons_succ]
        refine wpAnyH_take (i := 21) (v := .bool true) rfl (by kernel_rfl) (by kernel_rfl) (by kernel_rfl) (fun _ _ _ h => h) (Or.inl ⟨by rfl, ?_⟩) hSd ?_
        · rintro w6 k1
          go_simp
        simp only [Act.put, List.setIfInBounds_toArray, List.set_cons_zero, List.set_cons_succ, List.getElem_toArray, List.getElem_cons_zero, List.getElem_cons_succ]
        refine wpAnyH_done (by kernel_rfl) ?_ _
        refine hK _ _ ?_
        go_wp2
        go_ret2
        exact HNO.out (HBAD.out)
      · by_cases hx2 : 999 < x
        · have HBAD : Hid (¬ (pgOk x = true ∧ x ∉ l.take k)) := Lib.hid (by
            unfold pgOk
            rintro ⟨h1, _⟩
            simp at h1
            omega)
          go_wp2
          rename_i K hK
          refine wp_held (fun w' : World => w'.cell? ⟨g, off + k, none⟩ = some (.int .i64 x)) K hmx ?_ (fun _ _ h => h)
          refine wpAnyH_take (i := 0) (v := .slice (some ⟨g, off, none⟩) n c) rfl (by kernel_rfl) (by kernel_rfl) (by kernel_rfl) (fun _ _ _ h => h) (Or.inl ⟨by rfl, ?_⟩) hSd ?_
          · rintro w6 k1
            go_simp
          simp only [Act.put, List.setIfInBounds_toArray, List.set_cons_zero, List.set_cons_succ, List.getElem_toArray, List.getElem_cons_zero]
          refine wpAnyH_take (i := 1) (v := .int .i64 (k : Int)) rfl (by kernel_rfl) (by kernel_rfl) (by kernel_rfl) (fun _ _ _ h => h) (Or.inl ⟨by rfl, ?_⟩) hSd ?_
          · rintro w6 k1
            go_simp
          simp only [Act.put, List.setIfInBounds_toArray, List.set_cons_zero, List.set_cons_succ, List.getElem_toArray, List.getElem_cons_zero, List.getElem_cons_succ]
          refine wpAnyH_take (i := 2) (v := .pointer (some ⟨g, off + k, none⟩)) rfl (by kernel_rfl) (by kernel_rfl) (by kernel_rfl) (fun _ _ _ h => h) (Or.inl ⟨by rfl, ?_⟩) hSd ?_
          · rintro w6 k1
            go_simp
          simp only [Act.put, List.setIfInBounds_toArray, List.set_cons_zero, List.set_cons_succ, List.getElem_toArray, List.getElem_cons_zero, List.getElem_cons_succ]
          refine wpAnyH_take (i := 3) (v := .int .i64 x) rfl (by kernel_rfl) (by kernel_rfl) (by kernel_rfl) (fun _ _ _ h => h) (Or.inl ⟨by rfl, ?_⟩) hSd ?_
          · rintro w6 k1
            go_simp
          simp only [Act.put, List.setIfInBounds_toArray, List.set_cons_zero, List.set_cons_succ, List.getElem_toArray, List.getElem_cons_zero, List.getElem_cons_succ]
          refine wpAnyH_take (i := 4) (v := .bool false) rfl (by kernel_rfl) (by kernel_rfl) (by kernel_rfl) (fun _ _ _ h => h) (Or.inl ⟨by rfl, ?_⟩) hSd ?_
          · rintro w6 k1
            go_simp
          simp only [Act.put, List.setIfInBounds_toArray, List.set_cons_zero, List.set_cons_succ, List.getElem_toArray, List.getElem_cons_zero, List.getElem_cons_succ]
          refine wpAnyH_take (i := 5) (v := .bool false) rfl (by kernel_rfl) (by kernel_rfl) (by kernel_rfl) (fun _ _ _ h => h) (Or.inl ⟨by rfl, ?_⟩) hSd ?_
          · rintro w6 k1
            go_simp
          simp only [Act.put, List.setIfInBounds_toArray, List.set_cons_zero, List.set_cons_succ, List.getElem_toArray, List.getElem_cons_zero, List.getElem_cons_succ]
          refine wpAnyH_take (i := 6) (v := .slice (some ⟨g, off, none⟩) n c) rfl (by kernel_rfl) (by kernel_rfl) (by kernel_rfl) (fun _ _ _ h => h) (Or.inl ⟨by rfl, ?_⟩) hSd ?_
          · rintro w6 k1
            go_simp
          simp only [Act.put, List.setIfInBounds_toArray, List.set_cons_zero, List.set_cons_succ, List.getElem_toArray, List.getElem_cons_zero, List.getElem_cons_succ]
          refine wpAnyH_take (i := 7) (v := .int .i64 (k : Int)) rfl (by kernel_rfl) (by kernel_rfl) (by kernel_rfl) (fun _ _ _ h => h) (Or.inl ⟨by rfl, ?_⟩) hSd ?_
          · rintro w6 k1
            go_simp
          simp only [Act.put, List.setIfInBounds_toArray, List.set_cons_zero, List.set_cons_succ, List.getElem_toArray, List.getElem_cons_zero, List.getElem_cons_succ]
          refine wpAnyH_take (i := 8) (v := .pointer (some ⟨g, off + k, none⟩)) rfl (by kernel_rfl) (by kernel_rfl) (by kernel_rfl) (fun _ _ _ h => h) (Or.inl ⟨by rfl, ?_⟩) hSd ?_
          · rintro w6 k1
            go_simp
          simp only [Act.put, List.setIfInBounds_toArray, List.set_cons_zero, List.set_cons_succ, List.getElem_toArray, List.getElem_cons_zero, List.getElem_cons_succ]
          refine wpAnyH_take (i := 9) (v := .int .i64 x) rfl (by kernel_rfl) (by kernel_rfl) (by kernel_rfl) (fun _ _ _ h => h) (Or.inl ⟨by rfl, ?_⟩) hSd ?_
          · rintro w6 k1
            go_simp
          simp only [Act.put, List.setIfInBounds_toArray, List.set_cons_zero, List.set_cons_succ, List.getElem_toArray, List.getElem_cons_zero, List.getElem_cons_succ]
          refine wpAnyH_take (i := 10) (v := .bool true) rfl (by kernel_rfl) (by kernel_rfl) (by kernel_rfl) (fun _ _ _ h => h) (Or.inl ⟨by rfl, ?_⟩) hSd ?_
          · rintro w6 k1
            go_simp
          simp only [Act.put, List.setIfInBounds_toArray, List.set_cons_zero, List.set_cons_succ, List.getElem_toArray, List.getElem_cons_zero, List.getElem_cons_succ]
          refine wpAnyH_take (i := 11) (v := .bool true) rfl (by kernel_rfl) (by kernel_rfl) (by kernel_rfl) (fun _ _ _ h => h) (Or.inl ⟨by rfl, ?_⟩) hSd ?_
          · rintro w6 k1
            go_simp
          simp only [Act.put, List.setIfInBounds_toArray, List.set_cons_zero, List.set_cons_succ, List.getElem_toArray, List.getElem_cons_zero, List.getElem_cons_succ]
          refine wpAnyH_take (i := 12) (v := .bool true) rfl (by kernel_rfl) (by kernel_rfl) (by kernel_rfl) (fun _ _ _ h => h) (Or.inl ⟨by rfl, ?_⟩) hSd ?_
          · rintro w6 k1
            go_simp
          simp only [Act.put, List.setIfInBounds_toArray, List.set_cons_zero, List.set_cons_succ, List.getElem_toArray, List.getElem_cons_zero, List.getElem_cons_succ]
          refine wpAnyH_take (i := 13) (v := undef) rfl (by kernel_rfl) (by kernel_rfl) (by kernel_rfl) (fun _ _ _ h => h) (Or.inr ⟨by rfl, rfl⟩) hSd ?_
          simp only [Act.put, List.setIfInBounds_toArray, List.set_cons_zero, List.set_cons_succ, List.getElem_toArray, List.getElem_cons_zero, List.getElem_cons_succ]
          refine wpAnyH_take (i := 14) (v := undef) rfl (by kernel_rfl) (by kernel_rfl) (by kernel_rfl) (fun _ _ _ h => h) (Or.inr ⟨by rfl, rfl⟩) hSd ?_
          simp only [Act.put, List.setIfInBounds_toArray, List.set_cons_zero, List.set_cons_succ, List.getElem_toArray, List.getElem_cons_zero, List.getElem_cons_succ]
          refine wpAnyH_take (i := 15) (v := undef) rfl (by kernel_rfl) (by kernel_rfl) (by kernel_rfl) (fun _ _ _ h => h) (Or.inr ⟨by rfl, rfl⟩) hSd ?_
          simp only [Act.put, List.setIfInBounds_toArray, List.set_cons_zero, List.set_cons_succ, List.getElem_toArray, List.getElem_cons_zero, List.getElem_cons_succ]
          refine wpAnyH_take (i := 16) (v := undef) rfl (by kernel_rfl) (by kernel_rfl) (by kernel_rfl) (fun _ _ _ h => h) (Or.inr ⟨by rfl, rfl⟩) hSd ?_
          simp only [Act.put, List.setIfInBounds_toArray, List.set_cons_zero, List.set_cons_succ, List.getElem_toArray, List.getElem_cons_zero, List.getElem_cons_succ]
          refine wpAnyH_take (i := 17) (v := undef) rfl (by kernel_rfl) (by kernel_rfl) (by kernel_rfl) (fun _ _ _ h => h) (Or.inr ⟨by rfl, rfl⟩) hSd ?_
          simp only [Act.put, List.setIfInBounds_toArray, List.set_cons_zero, List.set_cons_succ, List.getElem_toArray, List.getElem_cons_zero, List.getElem_cons_succ]
          refine wpAnyH_take (i := 18) (v := undef) rfl (by kernel_rfl) (by kernel_rfl) (by kernel_rfl) (fun _ _ _ h => h) (Or.inr ⟨by rfl, rfl⟩) hSd ?_
          simp only [Act.put, List.setIfInBounds_toArray, List.set_cons_zero, List.set_cons_succ, List.getElem_toArray, List.getElem_cons_zero, List.getElem_cons_succ]
          refine wpAnyH_take (i := 19) (v := undef) rfl (by kernel_rfl) (by kernel_rfl) (by kernel_rfl) (fun _ _ _ h => h) (Or.inr ⟨by rfl, rfl⟩) hSd ?_
          simp only [Act.put, List.setIfInBounds_toArray, List.set_cons_zero, List.set_cons_succ, List.getElem_toArray, List.getElem_cons_zero, List.getElem_cons_succ]
          refine wpAnyH_take (i := 20) (v := undef) rfl (by kernel_rfl) (by kernel_rfl) (by kernel_rfl) (fun _ _ _ h => h) (Or.inr ⟨by rfl, rfl⟩) hSd ?_
          simp only [Act.put, List.setIfInBounds_toArray, List.set_cons_zero, List.set_cons_succ, List.getElem_toArray, List.getElem_cons_zero, List.getElem_cons_succ]
          refine wpAnyH_take (i := 21) (v := .bool true) rfl (by kernel_rfl) (by kernel_rfl) (by kernel_rfl) (fun _ _ _ h => h) (Or.inl ⟨by rfl, ?_⟩) hSd ?_
          · rintro w6 k1
            go_simp
          simp only [Act.put, List.setIfInBounds_toArray, List.set_cons_zero, List.set_cons_succ, List.getElem_toArray, List.getElem_cons_zero, List.getElem_cons_succ]
          refine wpAnyH_done (by kernel_rfl) ?_ _
          refine hK _ _ ?_
          go_wp2
          go_ret2
          exact HNO.out (HBAD.out)
        · by_cases hm : x ∈ l.take k
          · have HBAD : Hid (¬ (pgOk x = true ∧ x ∉ l.take k)) := Lib.hid (fun h1 => h1.2 hm)
            rw [decide_eq_true hm] at HHS
            clear hm
            go_wp2
            rename_i K hK
            refine wp_held (fun w' : World => w'.cell? ⟨g, off + k, none⟩ = some (.int .i64 x)) K hmx ?_ (fun _ _ h => h)
            refine wpAnyH_take (i := 0) (v := .slice (some ⟨g, off, none⟩) n c) rfl (by kernel_rfl) (by kernel_rfl) (by kernel_rfl) (fun _ _ _ h => h) (Or.inl ⟨by rfl, ?_⟩) hSd ?_
            · rintro w6 k1
              go_simp
            simp only [Act.put, List.setIfInBounds_toArray, List.set_cons_zero, List.set_cons_succ, List.getElem_toArray, List.getElem_cons_zero]
            refine wpAnyH_take (i := 1) (v := .int .i64 (k : Int)) rfl (by kernel_rfl) (by kernel_rfl) (by kernel_rfl) (fun _ _ _ h => h) (Or.inl ⟨by rfl, ?_⟩) hSd ?_
            · rintro w6 k1
              go_simp
            simp only [Act.put, List.setIfInBounds_toArray, List.set_cons_zero, List.set_cons_succ, List.getElem_toArray, List.getElem_cons_zero, List.getElem_cons_succ]
            refine wpAnyH_take (i := 2) (v := .pointer (some ⟨g, off + k, none⟩)) rfl (by kernel_rfl) (by kernel_rfl) (by kernel_rfl) (fun _ _ _ h => h) (Or.inl ⟨by rfl, ?_⟩) hSd ?_
            · rintro w6 k1
              go_simp
            simp only [Act.put, List.setIfInBounds_toArray, List.set_cons_zero, List.set_cons_succ, List.getElem_toArray, List.getElem_cons_zero, List.getElem_cons_succ]
            refine wpAnyH_take (i := 3) (v := .int .i64 x) rfl (by kernel_rfl) (by kernel_rfl) (by kernel_rfl) (fun _ _ _ h => h) (Or.inl ⟨by rfl, ?_⟩) hSd ?_
            · rintro w6 k1
              go_simp
            simp only [Act.put, List.setIfInBounds_toArray, List.set_cons_zero, List.set_cons_succ, List.getElem_toArray, List.getElem_cons_zero, List.getElem_cons_succ]
            refine wpAnyH_take (i := 4) (v := .bool false) rfl (by kernel_rfl) (by kernel_rfl) (by kernel_rfl) (fun _ _ _ h => h) (Or.inl ⟨by rfl, ?_⟩) hSd ?_
            · rintro w6 k1
              go_simp
            simp only [Act.put, List.setIfInBounds_toArray, List.set_cons_zero, List.set_cons_succ, List.getElem_toArray, List.getElem_cons_zero, List.getElem_cons_succ]
            refine wpAnyH_take (i := 5) (v := .bool false) rfl (by kernel_rfl) (by kernel_rfl) (by kernel_rfl) (fun _ _ _ h => h) (Or.inl ⟨by rfl, ?_⟩) hSd ?_
            · rintro w6 k1
              go_simp
            simp only [Act.put, List.setIfInBounds_toArray, List.set_cons_zero, List.set_cons_succ, List.getElem_toArray, List.getElem_cons_zero, List.getElem_cons_succ]
            refine wpAnyH_take (i := 6) (v := .slice (some ⟨g, off, none⟩) n c) rfl (by kernel_rfl) (by kernel_rfl) (by kernel_rfl) (fun _ _ _ h => h) (Or.inl ⟨by rfl, ?_⟩) hSd ?_
            · rintro w6 k1
              go_simp
            simp only [Act.put, List.setIfInBounds_toArray, List.set_cons_zero, List.set_cons_succ, List.getElem_toArray, List.getElem_cons_zero, List.getElem_cons_succ]
            refine wpAnyH_take (i := 7) (v := .int .i64 (k : Int)) rfl (by kernel_rfl) (by kernel_rfl) (by kernel_rfl) (fun _ _ _ h => h) (Or.inl ⟨by rfl, ?_⟩) hSd ?_
            · rintro w6 k1
              go_simp
            simp only [Act.put, List.setIfInBounds_toArray, List.set_cons_zero, List.set_cons_succ, List.getElem_toArray, List.getElem_cons_zero, List.getElem_cons_succ]
            refine wpAnyH_take (i := 8) (v := .pointer (some ⟨g, off + k, none⟩)) rfl (by kernel_rfl) (by kernel_rfl) (by kernel_rfl) (fun _ _ _ h => h) (Or.inl ⟨by rfl, ?_⟩) hSd ?_
            · rintro w6 k1
              go_simp
            simp only [Act.put, List.setIfInBounds_toArray, List.set_cons_zero, List.set_cons_succ, List.getElem_toArray, List.getElem_cons_zero, List.getElem_cons_succ]
            refine wpAnyH_take (i := 9) (v := .int .i64 x) rfl (by kernel_rfl) (by kernel_rfl) (by kernel_rfl) (fun _ _ _ h => h) (Or.inl ⟨by rfl, ?_⟩) hSd ?_
            · rintro w6 k1
              go_simp
            simp only [Act.put, List.setIfInBounds_toArray, List.set_cons_zero, List.set_cons_succ, List.getElem_toArray, List.getElem_cons_zero, List.getElem_cons_succ]
            refine wpAnyH_take (i := 10) (v := .bool false) rfl (by kernel_rfl) (by kernel_rfl) (by kernel_rfl) (fun _ _ _ h => h) (Or.inl ⟨by rfl, ?_⟩) hSd ?_
            · rintro w6 k1
              go_simp
            simp only [Act.put, List.setIfInBounds_toArray, List.set_cons_zero, List.set_cons_succ, List.getElem_toArray, List.getElem_cons_zero, List.getElem_cons_succ]
            refine wpAnyH_take (i := 11) (v := .bool false) rfl (by kernel_rfl) (by kernel_rfl) (by kernel_rfl) (fun _ _ _ h => h) (Or.inl ⟨by rfl, ?_⟩) hSd ?_
            · rintro w6 k1
              go_simp
            simp only [Act.put, List.setIfInBounds_toArray, List.set_cons_zero, List.set_cons_succ, List.getElem_toArray, List.getElem_cons_zero, List.getElem_cons_succ]
            refine wpAnyH_take (i := 12) (v := .bool false) rfl (by kernel_rfl) (by kernel_rfl) (by kernel_rfl) (fun _ _ _ h => h) (Or.inl ⟨by rfl, ?_⟩) hSd ?_
            · rintro w6 k1
              go_simp
            simp only [Act.put, List.setIfInBounds_toArray, List.set_cons_zero, List.set_cons_succ, List.getElem_toArray, List.getElem_cons_zero, List.getElem_cons_succ]
            refine wpAnyH_take (i := 13) (v := .slice (some ⟨g, off, none⟩) n c) rfl (by kernel_rfl) (by kernel_rfl) (by kernel_rfl) (fun _ _ _ h => h) (Or.inl ⟨by rfl, ?_⟩) hSd ?_
            · rintro w6 k1
              go_simp
            simp only [Act.put, List.setIfInBounds_toArray, List.set_cons_zero, List.set_cons_succ, List.getElem_toArray, List.getElem_cons_zero, List.getElem_cons_succ]
            refine wpAnyH_take (i := 14) (v := .int .i64 (k : Int)) rfl (by kernel_rfl) (by kernel_rfl) (by kernel_rfl) (fun _ _ _ h => h) (Or.inl ⟨by rfl, ?_⟩) hSd ?_
            · rintro w6 k1
              go_simp
            simp only [Act.put, List.setIfInBounds_toArray, List.set_cons_zero, List.set_cons_succ, List.getElem_toArray, List.getElem_cons_zero, List.getElem_cons_succ]
            refine wpAnyH_take (i := 15) (v := .slice (some ⟨g, off, none⟩) k c) rfl (by kernel_rfl) (by kernel_rfl) (by kernel_rfl) (fun _ _ _ h => h) (Or.inl ⟨by rfl, ?_⟩) hSd ?_
            · rintro w6 k1
              go_simp
            simp only [Act.put, List.setIfInBounds_toArray, List.set_cons_zero, List.set_cons_succ, List.getElem_toArray, List.getElem_cons_zero, List.getElem_cons_succ]
            refine wpAnyH_take (i := 16) (v := .slice (some ⟨g, off, none⟩) n c) rfl (by kernel_rfl) (by kernel_rfl) (by kernel_rfl) (fun _ _ _ h => h) (Or.inl ⟨by rfl, ?_⟩) hSd ?_
            · rintro w6 k1
              go_simp
            simp only [Act.put, List.setIfInBounds_toArray, List.set_cons_zero, List.set_cons_succ, List.getElem_toArray, List.getElem_cons_zero, List.getElem_cons_succ]
            refine wpAnyH_take (i := 17) (v := .int .i64 (k : Int)) rfl (by kernel_rfl) (by kernel_rfl) (by kernel_rfl) (fun _ _ _ h => h) (Or.inl ⟨by rfl, ?_⟩) hSd ?_
            · rintro w6 k1
              go_simp
            simp only [Act.put, List.setIfInBounds_toArray, List.set_cons_zero, List.set_cons_succ, List.getElem_toArray, List.getElem_cons_zero, List.getElem_cons_succ]
            refine wpAnyH_take (i := 18) (v := .pointer (some ⟨g, off + k, none⟩)) rfl (by kernel_rfl) (by kernel_rfl) (by kernel_rfl) (fun _ _ _ h => h) (Or.inl ⟨by rfl, ?_⟩) hSd ?_
            · rintro w6 k1
              go_simp
            simp only [Act.put, List.setIfInBounds_toArray, List.set_cons_zero, List.set_cons_succ, List.getElem_toArray, List.getElem_cons_zero, List.getElem_cons_succ]
            refine wpAnyH_take (i := 19) (v := .int .i64 x) rfl (by kernel_rfl) (by kernel_rfl) (by kernel_rfl) (fun _ _ _ h => h) (Or.inl ⟨by rfl, ?_⟩) hSd ?_
            · rintro w6 k1
              go_simp
            simp only [Act.put, List.setIfInBounds_toArray, List.set_cons_zero, List.set_cons_succ, List.getElem_toArray, List.getElem_cons_zero, List.getElem_cons_succ]
            refine wpAnyH_ready (rs := [20]) (by kernel_rfl) (by simp) ?_
            refine AllReadyH.cons rfl (fun K5 hK5 => ?_) AllReadyH.nil
            go_simp
            go_at_call 28
            refine (HHS.out _ (Below.refl _ _).drew).mono ?_
            rintro e5 w5 ⟨rfl, rfl⟩
            refine hK5.out _ _ hSd (fun _ => ?_)
            clear hK5 K5
            refine wpAnyH_take (i := 21) (v := .bool true) rfl (by kernel_rfl) (by kernel_rfl) (by kernel_rfl) (fun _ _ _ h => h) (Or.inl ⟨by rfl, ?_⟩) hSd ?_
            · rintro w6 k1
              go_simp
            simp only [Act.put, List.setIfInBounds_toArray, List.set_cons_zero, List.set_cons_succ, List.getElem_toArray, List.getElem_cons_zero, List.getElem_cons_succ]
            refine wpAnyH_done (by kernel_rfl) ?_ _
            refine hK _ _ ?_
            go_wp2
            go_ret2
            exact HNO.out (HBAD.out)
          · have HPG : Hid (pgOk x = true) := Lib.hid (by unfold pgOk; simp; omega)
            have HNM := Lib.hid hm
            rw [decide_eq_false hm] at HHS
            clear hm HNO
            go_wp2
            rename_i K hK
            refine wp_held (fun w' : World => w'.cell? ⟨g, off + k, none⟩ = some (.int .i64 x)) K hmx ?_ (fun _ _ h => h)
            refine wpAnyH_take (i := 0) (v := .slice (some ⟨g, off, none⟩) n c) rfl (by kernel_rfl) (by kernel_rfl) (by kernel_rfl) (fun _ _ _ h => h) (Or.inl ⟨by rfl, ?_⟩) hSd ?_
            · rintro w6 k1
              go_simp
            simp only [Act.put, List.setIfInBounds_toArray, List.set_cons_zero, List.set_cons_succ, List.getElem_toArray, List.getElem_cons_zero]
            refine wpAnyH_take (i := 1) (v := .int .i64 (k : Int)) rfl (by kernel_rfl) (by kernel_rfl) (by kernel_rfl) (fun _ _ _ h => h) (Or.inl ⟨by rfl, ?_⟩) hSd ?_
            · rintro w6 k1
              go_simp
            simp only [Act.put, List.setIfInBounds_toArray, List.set_cons_zero, List.set_cons_succ, List.getElem_toArray, List.getElem_cons_zero, List.getElem_cons_succ]
            refine wpAnyH_take (i := 2) (v := .pointer (some ⟨g, off + k, none⟩)) rfl (by kernel_rfl) (by kernel_rfl) (by kernel_rfl) (fun _ _ _ h => h) (Or.inl ⟨by rfl, ?_⟩) hSd ?_
            · rintro w6 k1
              go_simp
            simp only [Act.put, List.setIfInBounds_toArray, List.set_cons_zero, List.set_cons_succ, List.getElem_toArray, List.getElem_cons_zero, List.getElem_cons_succ]
            refine wpAnyH_take (i := 3) (v := .int .i64 x) rfl (by kernel_rfl) (by kernel_rfl) (by kernel_rfl) (fun _ _ _ h => h) (Or.inl ⟨by rfl, ?_⟩) hSd ?_
            · rintro w6 k1
              go_simp
            simp only [Act.put, List.setIfInBounds_toArray, List.set_cons_zero, List.set_cons_succ, List.getElem_toArray, List.getElem_cons_zero, List.getElem_cons_succ]
            refine wpAnyH_take (i := 4) (v := .bool false) rfl (by kernel_rfl) (by kernel_rfl) (by kernel_rfl) (fun _ _ _ h => h) (Or.inl ⟨by rfl, ?_⟩) hSd ?_
            · rintro w6 k1
              go_simp
            simp only [Act.put, List.setIfInBounds_toArray, List.set_cons_zero, List.set_cons_succ, List.getElem_toArray, List.getElem_cons_zero, List.getElem_cons_succ]
            refine wpAnyH_take (i := 5) (v := .bool false) rfl (by kernel_rfl) (by kernel_rfl) (by kernel_rfl) (fun _ _ _ h => h) (Or.inl ⟨by rfl, ?_⟩) hSd ?_
            · rintro w6 k1
              go_simp
            simp only [Act.put, List.setIfInBounds_toArray, List.set_cons_zero, List.set_cons_succ, List.getElem_toArray, List.getElem_cons_zero, List.getElem_cons_succ]
            refine wpAnyH_take (i := 6) (v := .slice (some ⟨g, off, none⟩) n c) rfl (by kernel_rfl) (by kernel_rfl) (by kernel_rfl) (fun _ _ _ h => h) (Or.inl ⟨by rfl, ?_⟩) hSd ?_
            · rintro w6 k1
              go_simp
            simp only [Act.put, List.setIfInBounds_toArray, List.set_cons_zero, List.set_cons_succ, List.getElem_toArray, List.getElem_cons_zero, List.getElem_cons_succ]
            refine wpAnyH_take (i := 7) (v := .int .i64 (k : Int)) rfl (by kernel_rfl) (by kernel_rfl) (by kernel_rfl) (fun _ _ _ h => h) (Or.inl ⟨by rfl, ?_⟩) hSd ?_
            · rintro w6 k1
              go_simp
            simp only [Act.put, List.setIfInBounds_toArray, List.set_cons_zero, List.set_cons_succ, List.getElem_toArray, List.getElem_cons_zero, List.getElem_cons_succ]
            refine wpAnyH_take (i := 8) (v := .pointer (some ⟨g, off + k, none⟩)) rfl (by kernel_rfl) (by kernel_rfl) (by kernel_rfl) (fun _ _ _ h => h) (Or.inl ⟨by rfl, ?_⟩) hSd ?_
            · rintro w6 k1
              go_simp
            simp only [Act.put, List.setIfInBounds_toArray, List.set_cons_zero, List.set_cons_succ, List.getElem_toArray, List.getElem_cons_zero, List.getElem_cons_succ]
            refine wpAnyH_take (i := 9) (v := .int .i64 x) rfl (by kernel_rfl) (by kernel_rfl) (by kernel_rfl) (fun _ _ _ h => h) (Or.inl ⟨by rfl, ?_⟩) hSd ?_
            · rintro w6 k1
              go_simp
            simp only [Act.put, List.setIfInBounds_toArray, List.set_cons_zero, List.set_cons_succ, List.getElem_toArray, List.getElem_cons_zero, List.getElem_cons_succ]
            refine wpAnyH_take (i := 10) (v := .bool false) rfl (by kernel_rfl) (by kernel_rfl) (by kernel_rfl) (fun _ _ _ h => h) (Or.inl ⟨by rfl, ?_⟩) hSd ?_
            · rintro w6 k1
              go_simp
            simp only [Act.put, List.setIfInBounds_toArray, List.set_cons_zero, List.set_cons_succ, List.getElem_toArray, List.getElem_cons_zero, List.getElem_cons_succ]
            refine wpAnyH_take (i := 11) (v := .bool false) rfl (by kernel_rfl) (by kernel_rfl) (by kernel_rfl) (fun _ _ _ h => h) (Or.inl ⟨by rfl, ?_⟩) hSd ?_
            · rintro w6 k1
              go_simp
            simp only [Act.put, List.setIfInBounds_toArray, List.set_cons_zero, List.set_cons_succ, List.getElem_toArray, List.getElem_cons_zero, List.getElem_cons_succ]
            refine wpAnyH_take (i := 12) (v := .bool false) rfl (by kernel_rfl) (by kernel_rfl) (by kernel_rfl) (fun _ _ _ h => h) (Or.inl ⟨by rfl, ?_⟩) hSd ?_
            · rintro w6 k1
              go_simp
            simp only [Act.put, List.setIfInBounds_toArray, List.set_cons_zero, List.set_cons_succ, List.getElem_toArray, List.getElem_cons_zero, List.getElem_cons_succ]
            refine wpAnyH_take (i := 13) (v := .slice (some ⟨g, off, none⟩) n c) rfl (by kernel_rfl) (by kernel_rfl) (by kernel_rfl) (fun _ _ _ h => h) (Or.inl ⟨by rfl, ?_⟩) hSd ?_
            · rintro w6 k1
              go_simp
            simp only [Act.put, List.setIfInBounds_toArray, List.set_cons_zero, List.set_cons_succ, List.getElem_toArray, List.getElem_cons_zero, List.getElem_cons_succ]
            refine wpAnyH_take (i := 14) (v := .int .i64 (k : Int)) rfl (by kernel_rfl) (by kernel_rfl) (by kernel_rfl) (fun _ _ _ h => h) (Or.inl ⟨by rfl, ?_⟩) hSd ?_
            · rintro w6 k1
              go_simp
            simp only [Act.put, List.setIfInBounds_toArray, List.set_cons_zero, List.set_cons_succ, List.getElem_toArray, List.getElem_cons_zero, List.getElem_cons_succ]
            refine wpAnyH_take (i := 15) (v := .slice (some ⟨g, off, none⟩) k c) rfl (by kernel_rfl) (by kernel_rfl) (by kernel_rfl) (fun _ _ _ h => h) (Or.inl ⟨by rfl, ?_⟩) hSd ?_
            · rintro w6 k1
              go_simp
            simp only [Act.put, List.setIfInBounds_toArray, List.set_cons_zero, List.set_cons_succ, List.getElem_toArray, List.getElem_cons_zero, List.getElem_cons_succ]
            refine wpAnyH_take (i := 16) (v := .slice (some ⟨g, off, none⟩) n c) rfl (by kernel_rfl) (by kernel_rfl) (by kernel_rfl) (fun _ _ _ h => h) (Or.inl ⟨by rfl, ?_⟩) hSd ?_
            · rintro w6 k1
              go_simp
            simp only [Act.put, List.setIfInBounds_toArray, List.set_cons_zero, List.set_cons_succ, List.getElem_toArray, List.getElem_cons_zero, List.getElem_cons_succ]
            refine wpAnyH_take (i := 17) (v := .int .i64 (k : Int)) rfl (by kernel_rfl) (by kernel_rfl) (by kernel_rfl) (fun _ _ _ h => h) (Or.inl ⟨by rfl, ?_⟩) hSd ?_
            · rintro w6 k1
              go_simp
            simp only [Act.put, List.setIfInBounds_toArray, List.set_cons_zero, List.set_cons_succ, List.getElem_toArray, List.getElem_cons_zero, List.getElem_cons_succ]
            refine wpAnyH_take (i := 18) (v := .pointer (some ⟨g, off + k, none⟩)) rfl (by kernel_rfl) (by kernel_rfl) (by kernel_rfl) (fun _ _ _ h => h) (Or.inl ⟨by rfl, ?_⟩) hSd ?_
            · rintro w6 k1
              go_simp
            simp only [Act.put, List.setIfInBounds_toArray, List.set_cons_zero, List.set_cons_succ, List.getElem_toArray, List.getElem_cons_zero, List.getElem_cons_succ]
            refine wpAnyH_take (i := 19) (v := .int .i64 x) rfl (by kernel_rfl) (by kernel_rfl) (by kernel_rfl) (fun _ _ _ h => h) (Or.inl ⟨by rfl, ?_⟩) hSd ?_
            · rintro w6 k1
              go_simp
            simp only [Act.put, List.setIfInBounds_toArray, List.set_cons_zero, List.set_cons_succ, List.getElem_toArray, List.getElem_cons_zero, List.getElem_cons_succ]
            refine wpAnyH_ready (rs := [20]) (by kernel_rfl) (by simp) ?_
            refine AllReadyH.cons rfl (fun K5 hK5 => ?_) AllReadyH.nil
            go_simp
            go_at_call 28
            refine (HHS.out _ (Below.refl _ _).drew).mono ?_
            rintro e5 w5 ⟨rfl, rfl⟩
            refine hK5.out _ _ hSd (fun _ => ?_)
            clear hK5 K5
            refine wpAnyH_take (i := 21) (v := .bool false) rfl (by kernel_rfl) (by kernel_rfl) (by kernel_rfl) (fun _ _ _ h => h) (Or.inl ⟨by rfl, ?_⟩) hSd ?_
            · rintro w6 k1
              go_simp
            simp only [Act.put, List.setIfInBounds_toArray, List.set_cons_zero, List.set_cons_succ, List.getElem_toArray, List.getElem_cons_zero, List.getElem_cons_succ]
            refine wpAnyH_done (by kernel_rfl) ?_ _
            refine hK _ _ ?_
            have hpos : 119 * k < s.length := by have := HPL.out k hlt; omega
            obtain ⟨pz, hpz⟩ : ∃ pz, partZ s.length k = pz := ⟨_, rfl⟩
            have hpz2 : pz ≤ 119 ∧ 119 * k + pz ≤ s.length ∧ 1 ≤ pz := by rw [← hpz]; unfold partZ; omega
            obtain ⟨p1, p2, p3⟩ := hpz2
            have hpt := r9part_any s.length k
            rw [hpz] at hpt
            have HPT := Lib.hid (fun w1 => hpt w1 (by omega) (by omega))
            have HSL : Hid (sb.extract (119 * k) (119 * k + pz) = ⟨(partL s k).toArray⟩) := Lib.hid (by
              rw [← HSB.out, ext_cut, ← hpz]
              have e : ((⟨s.toArray⟩ : ByteArray).data.toList) = s := rfl
              rw [e, show 119 * k + partZ s.length k - 119 * k = partZ s.length k by omega]
              congr 2
              unfold partL
              apply List.ext_getElem?
              intro i
              rw [List.getElem?_take, List.getElem?_take]
              unfold partZ
              by_cases hi : i < 119
              · rw [if_pos hi]
                by_cases hi2 : i < s.length - 119 * k
                · rw [if_pos (by omega)]
                · rw [if_neg (by omega), List.getElem?_eq_none (by rw [List.length_drop]; omega)]
              · rw [if_neg hi, if_neg (by omega)])
            have hps : (⟨(partL s k).toArray⟩ : ByteArray).size = pz := by rw [size_list, partL_len, hpz]
            have HOK2 := Lib.hid (okTo_snoc HOK.out (by rw [HX.out]; exact HPG.out) (by rw [HX.out]; exact HNM.out))
            obtain ⟨fr, hfr⟩ : ∃ fr, 119 * k = fr := ⟨_, rfl⟩
            have hfrI : 119 * (k : Int) = (fr : Int) := by omega
            obtain ⟨y, hy⟩ : ∃ y, l.getD (k + 1) 0 = y := ⟨_, rfl⟩
            have hwr := u64w9 y
            have hN := rNum_yes (u64N9 y) 2
            have HN2 : Hid (∀ w, Calls Tryd.prog 30 #[.int .u64 ((u64N9 y : Nat) : Int), .int .i64 2] w fun e w' => e = .returned (.string ⟨(numB (u64N9 y) 2).toArray⟩) ∧ Below w.heap.size w w') := Lib.hid (fun w => hN w (u64l9 y) (by decide) (by decide))
            have t4 : (⟨(numB (u64N9 y) 2).toArray⟩ : ByteArray).size = 2 := by rw [size_list, numB_len]
            have HCE : Hid ((⟨(numB (u64N9 y) 2).toArray⟩ : ByteArray) ++ ⟨(partL s k).toArray⟩ = ⟨(numB (u64N9 y) 2 ++ partL s k).toArray⟩) := Lib.hid (by rw [str_app])
            have HFT : Hid (cFits 3 [numB (u64N9 y) 2 ++ partL s k]) := Lib.hid ⟨by decide, by simp only [cSz, List.length_append, numB_len, partL_len, hpz]; omega⟩
            have HPG2 : Hid (rPg s l k = cPage 3 [numB (u64N9 y) 2 ++ partL s k]) := Lib.hid (by unfold rPg; rw [hy])
            generalize numB (u64N9 y) 2 ++ partL s k = cb at HCE HFT HPG2
            generalize (⟨(numB (u64N9 y) 2).toArray⟩ : ByteArray) = ns at HCE HN2 t4
            generalize (⟨(partL s k).toArray⟩ : ByteArray) = ps at HCE HSL hps
            have HPK : Hid (∀ A n c w, TxtA w A n [cb] → Calls Tryd.prog 29 #[.int .u8 3, .slice A n c] w (RPackEnd (cPage 3 [cb]) 0 w)) := Lib.hid (fun A n c w h => r7Pack_yes 3 A n c [cb] w h HFT.out)
            obtain ⟨ux, hux⟩ : ∃ ux, u64N9 y = ux := ⟨_, rfl⟩
            rw [hux] at hwr HN2
            rw [hfr] at HSL
            have HPSV : Hid (cstV (cPage 3 [cb]) = .string ⟨(cPage 3 [cb]).toArray⟩) := Lib.hid rfl
            obtain ⟨pg, hpg⟩ : ∃ pg : ByteArray, (⟨(cPage 3 [cb]).toArray⟩ : ByteArray) = pg := ⟨_, rfl⟩
            unfold RPackEnd at HPK
            rw [hpg] at HPK HPSV
            have hsl := HSL.out
            have hce := HCE.out
            have hfb : fr + pz ≤ s.length := by omega
            have hk4 : k ≤ 4 := by omega
            clear hpz hux hfr hpg HX HPG HNM hpt hN hpos
            by_cases hk1 : k + 1 < n
            · have hyc : wr.cell? ⟨g, off + (k + 1), none⟩ = some (.int .i64 y) := HYC.out hk1 y hy
              have hk1I : (k : Int) + 1 < (n : Int) := by omega
              clear hy HYC
              go_wp2_with (first
                | (go_at_call 30; (try rw [hwr]); (with_reducible refine (HN2.out _).mono ?_); rintro r1 w1 ⟨rfl, b1⟩; have B1 : Hid (Below wr.heap.size wr w1) := Lib.hid ((Below.refl _ wr).drew.trans b1); clear b1)
                | (go_at_call 31; (with_reducible refine (HPT.out _).mono ?_); rintro r1 w1 ⟨rfl, rfl⟩)
                | (go_at_call 29; go_loud ((try rw [hce]); obtain ⟨w2, hw2⟩ : ∃ w2, w1.alloc (.cells #[.string ⟨cb.toArray⟩] 9) = w2 := ⟨_, rfl⟩; (try rw [hw2]); have X2 := Lib.hid (hw2 ▸ ((Below.refl w1.heap.size w1).alloc (Nat.le_refl _) _)); have TX : Hid (TxtA w2 (some ⟨w1.heap.size, 0, none⟩) 1 [cb]) := Lib.hid ⟨rfl, fun _ => ⟨w1.heap.size, 0, rfl, fun j u hj => by rw [← hw2, (Has.made w1 9 #[.string ⟨cb.toArray⟩]).cell, Nat.zero_add]; simpa [cstV] using hj⟩⟩; (with_reducible refine (HPK.out _ _ _ _ TX.out).mono ?_); rintro r3 w3 ⟨rfl, b3⟩; have B3 := Lib.hid (below_step (below_step B1.out X2.out) b3); clear b3 hw2))
                | (at_builtin; refine wpList_append_one rfl _ _ 28 9 rfl w.heap.size 9 j0 _ 16 Tryd.underlying28 hj jz0 jz1 jz2 rfl _ k _ rfl (ceOwnBelow HO.out B3.out) (.string pg) rfl rfl ?_ ?_ ?_ ?_; (omega); (unfold maxLen; omega); (exact (below_step HB.out B3.out).size); intro v4 w4 h7 h8; have O4 := Lib.hid h7; have B4 := Lib.hid ((below_step HB.out B3.out).trans h8); clear h7 h8))
              go_roundw
              case rel =>
                refine ⟨k + 1, by omega, by go_num, HOK2.out, ?_, B4.out⟩
                rw [List.range_succ, List.map_append, List.map_append]
                simp only [List.map_cons, List.map_nil]
                rw [HPG2.out, HPSV.out]
                exact O4.out
              case measure => simp [intOf]; omega
            · have hy0 : y = 0 := HY0.out hk1 y hy
              subst hy0
              have hk1I : ¬ ((k : Int) + 1 < (n : Int)) := by omega
              clear hy HYC
              go_wp2_with (first
                | (go_at_call 30; (try rw [hwr]); (with_reducible refine (HN2.out _).mono ?_); rintro r1 w1 ⟨rfl, b1⟩; have B1 : Hid (Below wr.heap.size wr w1) := Lib.hid ((Below.refl _ wr).drew.trans b1); clear b1)
                | (go_at_call 31; (with_reducible refine (HPT.out _).mono ?_); rintro r1 w1 ⟨rfl, rfl⟩)
                | (go_at_call 29; go_loud ((try rw [hce]); obtain ⟨w2, hw2⟩ : ∃ w2, w1.alloc (.cells #[.string ⟨cb.toArray⟩] 9) = w2 := ⟨_, rfl⟩; (try rw [hw2]); have X2 := Lib.hid (hw2 ▸ ((Below.refl w1.heap.size w1).alloc (Nat.le_refl _) _)); have TX : Hid (TxtA w2 (some ⟨w1.heap.size, 0, none⟩) 1 [cb]) := Lib.hid ⟨rfl, fun _ => ⟨w1.heap.size, 0, rfl, fun j u hj => by rw [← hw2, (Has.made w1 9 #[.string ⟨cb.toArray⟩]).cell, Nat.zero_add]; simpa [cstV] using hj⟩⟩; (with_reducible refine (HPK.out _ _ _ _ TX.out).mono ?_); rintro r3 w3 ⟨rfl, b3⟩; have B3 := Lib.hid (below_step (below_step B1.out X2.out) b3); clear b3 hw2))
                | (at_builtin; refine wpList_append_one rfl _ _ 28 9 rfl w.heap.size 9 j0 _ 16 Tryd.underlying28 hj jz0 jz1 jz2 rfl _ k _ rfl (ceOwnBelow HO.out B3.out) (.string pg) rfl rfl ?_ ?_ ?_ ?_; (omega); (unfold maxLen; omega); (exact (below_step HB.out B3.out).size); intro v4 w4 h7 h8; have O4 := Lib.hid h7; have B4 := Lib.hid ((below_step HB.out B3.out).trans h8); clear h7 h8))
              go_roundw
              case rel =>
                refine ⟨k + 1, by omega, by go_num, HOK2.out, ?_, B4.out⟩
                rw [List.range_succ, List.map_append, List.map_append]
                simp only [List.map_cons, List.map_nil]
                rw [HPG2.out, HPSV.out]
                exact O4.out
              case measure => simp [intOf]; omega

    · obtain rfl : k = n := by omega
      have hg : goodP s l := ⟨HL.out, by rw [← HLN.out]; exact HN.out, fun j hj => HOK.out j (by rw [HLN.out]; exact hj)⟩
      have hp : putN s l = (pagesN s l, 0) := by unfold putN; rw [if_pos hg]
      have he : (List.range k).map (rPg s l) = pagesN s l := by
        unfold pagesN
        rw [← HLN.out]
        exact List.map_congr_left (fun j _ => rPg_ok hg.2.2 j)
      have ho := HO.out
      rw [he] at ho
      obtain ⟨A2, c2, rfl, _, hT⟩ := TxtA.of_own ho
      have HT := Lib.hid hT
      have HP := Lib.hid hp
      obtain ⟨w3, hw3⟩ : ∃ w3 : World, w3 = wr := ⟨_, rfl⟩
      subst hw3
      clear ho hT hp he hg
      go_wp2
      go_ret2
      unfold RPutEnd
      rw [HP.out]
      exact ⟨A2, k, c2, rfl, HT.out, HB.out⟩
theorem r9Put_any (s : List UInt8) (A : Option Addr) (n c : Nat) (l : List Int) (w : World) (h : Ints6 w A n l) (hc : n ≤ c) (hcm : c ≤ maxLen) :
    Calls Tryd.prog 10 #[.string ⟨s.toArray⟩, .slice A n c] w (RPutEnd s l w) := by
  have HND := Lib.hid (r9Need_any (s.length : Int) w)
  have hz : (⟨s.toArray⟩ : ByteArray).size = s.length := size_list s
  cases hl : lgB s.length
  · rw [need_no hl] at HND
    have HR : Hid (RPutEnd s l w (.returned (.tuple #[.slice none 0 0, .int .i64 1])) w) := Lib.hid (RPutEnd.no (fun hg => by rw [hg.1] at hl; cases hl) (Below.refl _ _))
    generalize (⟨s.toArray⟩ : ByteArray) = sb at *
    clear hl
    go_enter Tryd.func10, Tryd.ntmps10
    go_wp2_with (go_at_call 12; (with_reducible refine HND.out.mono ?_); rintro e w1 ⟨rfl, rfl⟩)
    go_ret2
    exact HR.out
  · by_cases hn : n = needN s.length
    · obtain ⟨g, off, rfl⟩ : ∃ g off, A = some ⟨g, off, none⟩ := by
        obtain ⟨g, off, e, _⟩ := h.reads (by
          rw [List.length_map, ← h.len, hn]
          have := (lg_need s.length).1 hl
          omega)
        exact ⟨g, off, e⟩
      exact r9Put_long s g off n c l w h hc hcm hl hn
    · have HR : Hid (RPutEnd s l w (.returned (.tuple #[.slice none 0 0, .int .i64 1])) w) := Lib.hid (RPutEnd.no (fun hg => hn (by rw [h.len]; exact hg.2.1)) (Below.refl _ _))
      have h0 := (lg_need s.length).1 hl
      obtain ⟨m, hm⟩ : ∃ m, needN s.length = m := ⟨_, rfl⟩
      rw [hm] at HND hn h0
      have hm0 : ((m : Int) == 0) = false := by simp; omega
      have hne : ((n : Int) != (m : Int)) = true := by simp; omega
      generalize (⟨s.toArray⟩ : ByteArray) = sb at *
      clear hl hm h
      go_enter Tryd.func10, Tryd.ntmps10
      go_wp2_with (go_at_call 12; (with_reducible refine HND.out.mono ?_); rintro e w1 ⟨rfl, rfl⟩)
      go_ret2
      exact HR.out

end Go.Proofs.YtdoabcbembinjaaDoor
