import Derived.Test.YtpaklhifnndeoaaJTqa
import Derived.Test.YtpaklhifnndeoaaJTpi
/- Of a claim's texts, joined: Tqb Tqc. No statement but in the last. -/
section
namespace Go.Proofs.Ytpaklhifnndeoaa
open Go.RowKit
set_option linter.unusedVariables false

def st5 (w : World) (P : Nat) (a b c d e : Value) : World := ((((w.setCell ⟨P, 0, none⟩ a).setCell ⟨P, 1, none⟩ b).setCell ⟨P, 2, none⟩ c).setCell ⟨P, 3, none⟩ d).setCell ⟨P, 4, none⟩ e
theorem Has.st5 {w : World} {P : Nat} {t : TypeId} {a0 b0 c0 d0 e0 : Value} (h : Has w P t #[a0, b0, c0, d0, e0]) (a b c d e : Value) : Has (st5 w P a b c d e) P t #[a, b, c, d, e] := by
  have := ((((h.store 0 a).store 1 b).store 2 c).store 3 d).store 4 e
  simpa [Go.Proofs.Ytpaklhifnndeoaa.st5] using this
theorem heap_st5 (w : World) (P : Nat) (a b c d e : Value) (q : Nat) (hq : q ≠ P) : (st5 w P a b c d e).heap[q]? = w.heap[q]? :=
  (Below.heap_setCell _ ⟨P, 4, none⟩ e q hq).trans ((Below.heap_setCell _ ⟨P, 3, none⟩ d q hq).trans ((Below.heap_setCell _ ⟨P, 2, none⟩ c q hq).trans ((Below.heap_setCell _ ⟨P, 1, none⟩ b q hq).trans (Below.heap_setCell w ⟨P, 0, none⟩ a q hq))))
theorem below_st5 {B : Nat} {w0 w : World} {P : Nat} (h : Below B w0 w) (hP : B ≤ P) (a b c d e : Value) : Below B w0 (st5 w P a b c d e) :=
  ((((h.setCell (p := ⟨P, 0, none⟩) hP a).setCell (p := ⟨P, 1, none⟩) hP b).setCell (p := ⟨P, 2, none⟩) hP c).setCell (p := ⟨P, 3, none⟩) hP d).setCell (p := ⟨P, 4, none⟩) hP e
theorem own_st5 {w : World} {B s n P : Nat} {t : TypeId} {v a b c d e : Value} {xs : List Value} (h : w.ownsRow B t s v n xs) (hP : P < B) : (st5 w P a b c d e).ownsRow B t s v n xs :=
  own_setC (own_setC (own_setC (own_setC (own_setC h hP) hP) hP) hP) hP
def SwapE (lf : Bool) (K V D : List Value) (n1 n2 n3 : Nat) (w : World) (e : Ending) (w' : World) : Prop :=
  ∃ A1 c1 A2 c2 A3 c3, e = .returned (ndV ⟨0, lf, A1, n1, c1, A2, n2, c2, A3, n3, c3⟩) ∧ w'.ownsRow w.heap.size 9 1 (.slice A1 n1 c1) n1 K ∧ w'.ownsRow w.heap.size 84 2 (.slice A2 n2 c2) n2 V ∧ w'.ownsRow w.heap.size 29 5 (.slice A3 n3 c3) n3 D ∧ Below w.heap.size w w'
theorem splE {w0 w w' : World} {t : TypeId} {s n : Nat} {xs : List Value} {e : Ending} (hb : Below w0.heap.size w0 w) (hB : w0.heap.size ≤ w.heap.size) (h : ∃ v, e = .returned v ∧ w'.ownsRow w.heap.size t s v n xs ∧ Below w.heap.size w w') : ∃ v, e = .returned v ∧ w'.ownsRow w0.heap.size t s v n xs ∧ Below w.heap.size w w' ∧ Below w0.heap.size w0 w' := by
  obtain ⟨v, h1, h2, h3⟩ := h
  exact ⟨v, h1, h2.mono hB, h3, below_step hb h3⟩
set_option maxRecDepth 100000 in
set_option maxHeartbeats 8000000 in
theorem trSwap_rows (F : Nat → Prop) (xp yp : Int) (xlf ylf : Bool) (xkA xvA xdA ykA yvA ydA : Option Addr) (xkn xkc xvn xvc xdn xdc ykn ykc yvn yvc ydn ydc f t : Nat) (K V D K2 V2 D2 : List Value) (w : World)
    (hk : RwF F w xkA xkn xkc 1 K) (hv : RwF F w xvA xvn xvc 2 V) (hd : RwF F w xdA xdn xdc 5 D) (hk2 : RwF F w ykA ykn ykc 1 K2) (hv2 : RwF F w yvA yvn yvc 2 V2) (hd2 : RwF F w ydA ydn ydc 5 D2)
    (o1 : ∀ u ∈ K, u.oneCell' = true) (o2 : ∀ u ∈ V, u.oneCell' = true) (o3 : ∀ u ∈ D, u.oneCell' = true) (o4 : ∀ u ∈ K2, u.oneCell' = true) (o5 : ∀ u ∈ V2, u.oneCell' = true) (o6 : ∀ u ∈ D2, u.oneCell' = true)
    (hb : xkn ≤ 1000 ∧ xvn ≤ 1000 ∧ xdn ≤ 1000 ∧ ykn ≤ 1000 ∧ yvn ≤ 1000 ∧ ydn ≤ 1000) (hft : f ≤ t) (ht : t ≤ 9223372036854775807) :
    Calls Try.prog 65 #[.agg #[.int .i64 xp, .bool xlf, .slice xkA xkn xkc, .slice xvA xvn xvc, .slice xdA xdn xdc], .int .i64 (f : Int), .int .i64 (t : Int), .agg #[.int .i64 yp, .bool ylf, .slice ykA ykn ykc, .slice yvA yvn yvc, .slice ydA ydn ydc]] w
      (SwapE xlf (K.take (min f xkn * 1) ++ (K2 ++ K.drop (min t xkn * 1))) (V.take (min f xvn * 2) ++ (V2 ++ V.drop (min t xvn * 2))) (D.take (min f xdn * 5) ++ (D2 ++ D.drop (min t xdn * 5))) (min f xkn + (ykn + (xkn - min t xkn))) (min f xvn + (yvn + (xvn - min t xvn))) (min f xdn + (ydn + (xdn - min t xdn))) w) := by
  obtain ⟨b1, b2, b3, b4, b5, b6⟩ := hb
  obtain ⟨W, hW⟩ : ∃ W, ((w.alloc (.cells #[.int .i64 xp, .bool xlf, .slice xkA xkn xkc, .slice xvA xvn xvc, .slice xdA xdn xdc] 29)).alloc (.cells #[.int .i64 yp, .bool ylf, .slice ykA ykn ykc, .slice yvA yvn yvc, .slice ydA ydn ydc] 29)).alloc (.cells #[.int .i64 0, .bool false, .slice none 0 0, .slice none 0 0, .slice none 0 0] 29) = W := ⟨_, rfl⟩
  have hB0 : Below w.heap.size w W := hW ▸ (((Below.refl _ w).alloc (Nat.le_refl _) _).alloc (by simp) _).alloc (by simp; omega) _
  have hX4 : Has W w.heap.size 29 #[.int .i64 xp, .bool xlf, .slice xkA xkn xkc, .slice xvA xvn xvc, .slice xdA xdn xdc] := hW ▸ ((Has.made w 29 _).alloc _).alloc _
  have hX7 : Has W (w.heap.size + 1) 29 #[.int .i64 yp, .bool ylf, .slice ykA ykn ykc, .slice yvA yvn yvc, .slice ydA ydn ydc] := hW ▸ (by have := Has.made (w.alloc (.cells #[.int .i64 xp, .bool xlf, .slice xkA xkn xkc, .slice xvA xvn xvc, .slice xdA xdn xdc] 29)) 29 #[.int .i64 yp, .bool ylf, .slice ykA ykn ykc, .slice yvA yvn yvc, .slice ydA ydn ydc]; simpa using this.alloc _)
  have hX8 : Has W (w.heap.size + 1 + 1) 29 #[.int .i64 0, .bool false, .slice none 0 0, .slice none 0 0, .slice none 0 0] := hW ▸ (by have := Has.made ((w.alloc (.cells #[.int .i64 xp, .bool xlf, .slice xkA xkn xkc, .slice xvA xvn xvc, .slice xdA xdn xdc] 29)).alloc (.cells #[.int .i64 yp, .bool ylf, .slice ykA ykn ykc, .slice yvA yvn yvc, .slice ydA ydn ydc] 29)) 29 #[.int .i64 0, .bool false, .slice none 0 0, .slice none 0 0, .slice none 0 0]; simpa using this)
  have HS1 := Lib.hid (fun (w' : World) (hb : Below W.heap.size W w') => (spliceS_any F xkA ykA xkn xkc ykn ykc f t (min f xkn) (min t xkn) K K2 w' (hk.below (below_step hB0 hb)) o1 (hk2.below (below_step hB0 hb)) o4 b1 b4 ht (by omega) rfl rfl (by omega)).mono (fun e w'' h => splE hb hb.size h))
  have HS2 := Lib.hid (fun (w' : World) (hb : Below W.heap.size W w') => (spliceV_any F xvA yvA xvn xvc yvn yvc f t (min f xvn) (min t xvn) V V2 w' (hv.below (below_step hB0 hb)) o2 (hv2.below (below_step hB0 hb)) o5 b2 b5 ht (by omega) rfl rfl (by omega)).mono (fun e w'' h => splE hb hb.size h))
  have HS3 := Lib.hid (fun (w' : World) (hb : Below W.heap.size W w') => (spliceN_any F xdA ydA xdn xdc ydn ydc f t (min f xdn) (min t xdn) D D2 w' (hd.below (below_step hB0 hb)) o3 (hd2.below (below_step hB0 hb)) o6 b3 b6 ht (by omega) rfl rfl (by omega)).mono (fun e w'' h => splE hb hb.size h))
  generalize (min f xkn + (ykn + (xkn - min t xkn))) = n1 at *
  generalize (min f xvn + (yvn + (xvn - min t xvn))) = n2 at *
  generalize (min f xdn + (ydn + (xdn - min t xdn))) = n3 at *
  generalize (K.take (min f xkn * 1) ++ (K2 ++ K.drop (min t xkn * 1))) = KK at *
  generalize (V.take (min f xvn * 2) ++ (V2 ++ V.drop (min t xvn * 2))) = VV at *
  generalize (D.take (min f xdn * 5) ++ (D2 ++ D.drop (min t xdn * 5))) = DD at *
  have hlt := hX8.lt
  obtain ⟨P4, hP4⟩ : ∃ P, w.heap.size = P := ⟨_, rfl⟩
  obtain ⟨P7, hP7⟩ : ∃ P, P4 + 1 = P := ⟨_, rfl⟩
  obtain ⟨P8, hP8⟩ : ∃ P, P7 + 1 = P := ⟨_, rfl⟩
  rw [hP4] at hX4
  rw [hP4, hP7] at hX7
  rw [hP4, hP7, hP8] at hX8 hlt
  have HORD : Hid (w.heap.size ≤ P8 ∧ P8 < W.heap.size) := Lib.hid ⟨by omega, hlt⟩
  have HX : Hid (∀ w' : World, Below P8 W w' → w'.cell? ⟨P4, 1, none⟩ = some (.bool xlf) ∧ w'.cell? ⟨P4, 2, none⟩ = some (.slice xkA xkn xkc) ∧ w'.cell? ⟨P4, 3, none⟩ = some (.slice xvA xvn xvc) ∧ w'.cell? ⟨P4, 4, none⟩ = some (.slice xdA xdn xdc) ∧ w'.cell? ⟨P7, 2, none⟩ = some (.slice ykA ykn ykc) ∧ w'.cell? ⟨P7, 3, none⟩ = some (.slice yvA yvn yvc) ∧ w'.cell? ⟨P7, 4, none⟩ = some (.slice ydA ydn ydc)) := Lib.hid (fun w' hb => by
    have a := hX4.below hb (by omega)
    have b := hX7.below hb (by omega)
    exact ⟨a.cell 1, a.cell 2, a.cell 3, a.cell 4, b.cell 2, b.cell 3, b.cell 4⟩)
  have HX8 := Lib.hid hX8
  have HB0 := Lib.hid hB0
  have HW := Lib.hid hW
  have hmx : Try.prog.follows .mixedOrders = true := by kernel_rfl
  have hS0 : Below W.heap.size W W.drew := (Below.refl _ W).drew
  clear hk hv hd hk2 hv2 hd2 o1 o2 o3 o4 o5 o6 b1 b2 b3 b4 b5 b6 hft ht hX4 hX7 hX8 hB0 hW hlt
  go_enter Try.func65, Try.ntmps65
  go_wp2
  rw [HW.out]
  try rw [hP4]
  try rw [hP7, hP8]
  clear hP4 hP7 hP8 HW
  go_wp2
  first | (rename_i K hK; refine wp_held (fun w' : World => Below P8 W w') K hmx ?_ (fun _ _ h => h)) | (rename_i K hK hz; refine wp_held (fun w' : World => Below P8 W w') K hmx ?_ (fun _ _ h => h))
  refine wpAnyH_take (i := 0) (v := .pointer (some ⟨P4, 1, none⟩)) (lit rfl) (by kernel_rfl) (by kernel_rfl) (by kernel_rfl) (fun _ _ _ h => h) (Or.inl ⟨by rfl, ?_⟩) (hS0.mono (Nat.le_of_lt HORD.out.2)) ?_
  · rintro w6 hb6
    go_simp
  simp only [Act.put, List.setIfInBounds_toArray, List.set_cons_zero, List.set_cons_succ]
  refine wpAnyH_take (i := 1) (v := .bool xlf) (lit rfl) (by kernel_rfl) (by kernel_rfl) (by kernel_rfl) (fun _ _ _ h => h) (Or.inl ⟨by rfl, ?_⟩) (hS0.mono (Nat.le_of_lt HORD.out.2)) ?_
  · rintro w6 hb6
    have y6 := (HX.out w6 hb6).1
    go_simp
  simp only [Act.put, List.setIfInBounds_toArray, List.set_cons_zero, List.set_cons_succ]
  refine wpAnyH_take (i := 2) (v := .pointer (some ⟨P4, 2, none⟩)) (lit rfl) (by kernel_rfl) (by kernel_rfl) (by kernel_rfl) (fun _ _ _ h => h) (Or.inl ⟨by rfl, ?_⟩) (hS0.mono (Nat.le_of_lt HORD.out.2)) ?_
  · rintro w6 hb6
    go_simp
  simp only [Act.put, List.setIfInBounds_toArray, List.set_cons_zero, List.set_cons_succ]
  refine wpAnyH_take (i := 3) (v := .slice xkA xkn xkc) (lit rfl) (by kernel_rfl) (by kernel_rfl) (by kernel_rfl) (fun _ _ _ h => h) (Or.inl ⟨by rfl, ?_⟩) (hS0.mono (Nat.le_of_lt HORD.out.2)) ?_
  · rintro w6 hb6
    have y6 := (HX.out w6 hb6).2.1
    go_simp
  simp only [Act.put, List.setIfInBounds_toArray, List.set_cons_zero, List.set_cons_succ]
  refine wpAnyH_take (i := 4) (v := .int .i64 (f : Int)) (lit rfl) (by kernel_rfl) (by kernel_rfl) (by kernel_rfl) (fun _ _ _ h => h) (Or.inl ⟨by rfl, ?_⟩) (hS0.mono (Nat.le_of_lt HORD.out.2)) ?_
  · rintro w6 hb6
    go_simp
  simp only [Act.put, List.setIfInBounds_toArray, List.set_cons_zero, List.set_cons_succ]
  refine wpAnyH_take (i := 5) (v := .int .i64 (t : Int)) (lit rfl) (by kernel_rfl) (by kernel_rfl) (by kernel_rfl) (fun _ _ _ h => h) (Or.inl ⟨by rfl, ?_⟩) (hS0.mono (Nat.le_of_lt HORD.out.2)) ?_
  · rintro w6 hb6
    go_simp
  simp only [Act.put, List.setIfInBounds_toArray, List.set_cons_zero, List.set_cons_succ]
  refine wpAnyH_take (i := 6) (v := .pointer (some ⟨P7, 2, none⟩)) (lit rfl) (by kernel_rfl) (by kernel_rfl) (by kernel_rfl) (fun _ _ _ h => h) (Or.inl ⟨by rfl, ?_⟩) (hS0.mono (Nat.le_of_lt HORD.out.2)) ?_
  · rintro w6 hb6
    go_simp
  simp only [Act.put, List.setIfInBounds_toArray, List.set_cons_zero, List.set_cons_succ]
  refine wpAnyH_take (i := 7) (v := .slice ykA ykn ykc) (lit rfl) (by kernel_rfl) (by kernel_rfl) (by kernel_rfl) (fun _ _ _ h => h) (Or.inl ⟨by rfl, ?_⟩) (hS0.mono (Nat.le_of_lt HORD.out.2)) ?_
  · rintro w6 hb6
    have y6 := (HX.out w6 hb6).2.2.2.2.1
    go_simp
  simp only [Act.put, List.setIfInBounds_toArray, List.set_cons_zero, List.set_cons_succ]
  refine wpAnyH_take (i := 9) (v := .pointer (some ⟨P4, 3, none⟩)) (lit rfl) (by kernel_rfl) (by kernel_rfl) (by kernel_rfl) (fun _ _ _ h => h) (Or.inl ⟨by rfl, ?_⟩) (hS0.mono (Nat.le_of_lt HORD.out.2)) ?_
  · rintro w6 hb6
    go_simp
  simp only [Act.put, List.setIfInBounds_toArray, List.set_cons_zero, List.set_cons_succ]
  refine wpAnyH_take (i := 10) (v := .slice xvA xvn xvc) (lit rfl) (by kernel_rfl) (by kernel_rfl) (by kernel_rfl) (fun _ _ _ h => h) (Or.inl ⟨by rfl, ?_⟩) (hS0.mono (Nat.le_of_lt HORD.out.2)) ?_
  · rintro w6 hb6
    have y6 := (HX.out w6 hb6).2.2.1
    go_simp
  simp only [Act.put, List.setIfInBounds_toArray, List.set_cons_zero, List.set_cons_succ]
  refine wpAnyH_take (i := 11) (v := .int .i64 (f : Int)) (lit rfl) (by kernel_rfl) (by kernel_rfl) (by kernel_rfl) (fun _ _ _ h => h) (Or.inl ⟨by rfl, ?_⟩) (hS0.mono (Nat.le_of_lt HORD.out.2)) ?_
  · rintro w6 hb6
    go_simp
  simp only [Act.put, List.setIfInBounds_toArray, List.set_cons_zero, List.set_cons_succ]
  refine wpAnyH_take (i := 12) (v := .int .i64 (t : Int)) (lit rfl) (by kernel_rfl) (by kernel_rfl) (by kernel_rfl) (fun _ _ _ h => h) (Or.inl ⟨by rfl, ?_⟩) (hS0.mono (Nat.le_of_lt HORD.out.2)) ?_
  · rintro w6 hb6
    go_simp
  simp only [Act.put, List.setIfInBounds_toArray, List.set_cons_zero, List.set_cons_succ]
  refine wpAnyH_take (i := 13) (v := .pointer (some ⟨P7, 3, none⟩)) (lit rfl) (by kernel_rfl) (by kernel_rfl) (by kernel_rfl) (fun _ _ _ h => h) (Or.inl ⟨by rfl, ?_⟩) (hS0.mono (Nat.le_of_lt HORD.out.2)) ?_
  · rintro w6 hb6
    go_simp
  simp only [Act.put, List.setIfInBounds_toArray, List.set_cons_zero, List.set_cons_succ]
  refine wpAnyH_take (i := 14) (v := .slice yvA yvn yvc) (lit rfl) (by kernel_rfl) (by kernel_rfl) (by kernel_rfl) (fun _ _ _ h => h) (Or.inl ⟨by rfl, ?_⟩) (hS0.mono (Nat.le_of_lt HORD.out.2)) ?_
  · rintro w6 hb6
    have y6 := (HX.out w6 hb6).2.2.2.2.2.1
    go_simp
  simp only [Act.put, List.setIfInBounds_toArray, List.set_cons_zero, List.set_cons_succ]
  refine wpAnyH_take (i := 16) (v := .pointer (some ⟨P4, 4, none⟩)) (lit rfl) (by kernel_rfl) (by kernel_rfl) (by kernel_rfl) (fun _ _ _ h => h) (Or.inl ⟨by rfl, ?_⟩) (hS0.mono (Nat.le_of_lt HORD.out.2)) ?_
  · rintro w6 hb6
    go_simp
  simp only [Act.put, List.setIfInBounds_toArray, List.set_cons_zero, List.set_cons_succ]
  refine wpAnyH_take (i := 17) (v := .slice xdA xdn xdc) (lit rfl) (by kernel_rfl) (by kernel_rfl) (by kernel_rfl) (fun _ _ _ h => h) (Or.inl ⟨by rfl, ?_⟩) (hS0.mono (Nat.le_of_lt HORD.out.2)) ?_
  · rintro w6 hb6
    have y6 := (HX.out w6 hb6).2.2.2.1
    go_simp
  simp only [Act.put, List.setIfInBounds_toArray, List.set_cons_zero, List.set_cons_succ]
  refine wpAnyH_take (i := 18) (v := .int .i64 (f : Int)) (lit rfl) (by kernel_rfl) (by kernel_rfl) (by kernel_rfl) (fun _ _ _ h => h) (Or.inl ⟨by rfl, ?_⟩) (hS0.mono (Nat.le_of_lt HORD.out.2)) ?_
  · rintro w6 hb6
    go_simp
  simp only [Act.put, List.setIfInBounds_toArray, List.set_cons_zero, List.set_cons_succ]
  refine wpAnyH_take (i := 19) (v := .int .i64 (t : Int)) (lit rfl) (by kernel_rfl) (by kernel_rfl) (by kernel_rfl) (fun _ _ _ h => h) (Or.inl ⟨by rfl, ?_⟩) (hS0.mono (Nat.le_of_lt HORD.out.2)) ?_
  · rintro w6 hb6
    go_simp
  simp only [Act.put, List.setIfInBounds_toArray, List.set_cons_zero, List.set_cons_succ]
  refine wpAnyH_take (i := 20) (v := .pointer (some ⟨P7, 4, none⟩)) (lit rfl) (by kernel_rfl) (by kernel_rfl) (by kernel_rfl) (fun _ _ _ h => h) (Or.inl ⟨by rfl, ?_⟩) (hS0.mono (Nat.le_of_lt HORD.out.2)) ?_
  · rintro w6 hb6
    go_simp
  simp only [Act.put, List.setIfInBounds_toArray, List.set_cons_zero, List.set_cons_succ]
  refine wpAnyH_take (i := 21) (v := .slice ydA ydn ydc) (lit rfl) (by kernel_rfl) (by kernel_rfl) (by kernel_rfl) (fun _ _ _ h => h) (Or.inl ⟨by rfl, ?_⟩) (hS0.mono (Nat.le_of_lt HORD.out.2)) ?_
  · rintro w6 hb6
    have y6 := (HX.out w6 hb6).2.2.2.2.2.2
    go_simp
  simp only [Act.put, List.setIfInBounds_toArray, List.set_cons_zero, List.set_cons_succ]
  refine wpAnyH_ready (rs := [8]) (by kernel_rfl) (by simp) ?_
  refine AllReadyH.cons (lit rfl) (fun K5 hK5 => ?_) AllReadyH.nil
  refine step_open rfl ?_
  go_simp
  go_at_call 86
  (with_reducible refine (HS1.out _ hS0).mono ?_)
  rintro e0 w1 ⟨v1, rfl, o1, st1, hS1⟩
  obtain ⟨A1, c1, rfl, hcc1, hcm1⟩ := slice15 o1
  have O1 := Lib.hid o1
  have ST1 := Lib.hid st1
  clear st1 o1 hcc1 hcm1
  go_simp
  refine hK5.out _ _ (hS1.mono (Nat.le_of_lt HORD.out.2)) (fun _ => ?_)
  clear hK5 K5
  refine wpAnyH_ready (rs := [15]) (by kernel_rfl) (by simp) ?_
  refine AllReadyH.cons (lit rfl) (fun K5 hK5 => ?_) AllReadyH.nil
  refine step_open rfl ?_
  go_simp
  go_at_call 87
  (with_reducible refine (HS2.out _ hS1).mono ?_)
  rintro e1 w2 ⟨v2, rfl, o2, st2, hS2⟩
  obtain ⟨A2, c2, rfl, hcc2, hcm2⟩ := slice15 o2
  have O2 := Lib.hid o2
  have ST2 := Lib.hid st2
  clear st2 o2 hcc2 hcm2
  go_simp
  refine hK5.out _ _ (hS2.mono (Nat.le_of_lt HORD.out.2)) (fun _ => ?_)
  clear hK5 K5
  refine wpAnyH_ready (rs := [22]) (by kernel_rfl) (by simp) ?_
  refine AllReadyH.cons (lit rfl) (fun K5 hK5 => ?_) AllReadyH.nil
  refine step_open rfl ?_
  go_simp
  go_at_call 88
  (with_reducible refine (HS3.out _ hS2).mono ?_)
  rintro e2 w3 ⟨v3, rfl, o3, st3, hS3⟩
  obtain ⟨A3, c3, rfl, hcc3, hcm3⟩ := slice15 o3
  have O3 := Lib.hid o3
  have ST3 := Lib.hid st3
  clear st3 o3 hcc3 hcm3
  go_simp
  refine hK5.out _ _ (hS3.mono (Nat.le_of_lt HORD.out.2)) (fun _ => ?_)
  clear hK5 K5
  refine wpAnyH_take (i := 23) (v := .agg #[.int .i64 0, .bool xlf, .slice A1 n1 c1, .slice A2 n2 c2, .slice A3 n3 c3]) (lit rfl) (by kernel_rfl) (by kernel_rfl) (by kernel_rfl) (fun _ _ _ h => h) (Or.inl ⟨by rfl, ?_⟩) (hS3.mono (Nat.le_of_lt HORD.out.2)) ?_
  · rintro w6 hb6
    go_simp
  simp only [Act.put, List.setIfInBounds_toArray, List.set_cons_zero, List.set_cons_succ]
  refine wpAnyH_ready (rs := [24]) (by kernel_rfl) (by simp) ?_
  refine AllReadyH.cons (lit rfl) (fun K5 hK5 => ?_) AllReadyH.nil
  refine step_open rfl ?_
  go_simp
  have Z8 := HX8.out.below hS3 HX8.out.lt
  have z0 := Z8.cell 0
  have z1 := Z8.cell 1
  have z2 := Z8.cell 2
  have z3 := Z8.cell 3
  have z4 := Z8.cell 4
  have q0 := Z8.free 0
  have q1 := Z8.free 1
  have q2 := Z8.free 2
  have q3 := Z8.free 3
  have q4 := Z8.free 4
  have hSE := below_st5 (hS3.mono (Nat.le_of_lt HORD.out.2)) (Nat.le_refl _) (.int .i64 0) (.bool xlf) (.slice A1 n1 c1) (.slice A2 n2 c2) (.slice A3 n3 c3)
  unfold st5 at hSE
  go_simp
  refine hK5.out _ _ hSE (fun _ => ?_)
  clear hK5 K5
  refine wpAnyH_done (by kernel_rfl) ?_ _
  refine hK _ _ ?_
  go_wp2
  have XE := Z8.st5 (.int .i64 0) (.bool xlf) (.slice A1 n1 c1) (.slice A2 n2 c2) (.slice A3 n3 c3)
  have e0 := XE.cell 0
  have e1 := XE.cell 1
  have e2 := XE.cell 2
  have e3 := XE.cell 3
  have e4 := XE.cell 4
  unfold st5 at e0 e1 e2 e3 e4
  simp at e0 e1 e2 e3 e4
  have hle : w.heap.size ≤ W.heap.size := HB0.out.size
  refine ⟨rfl, .agg #[.int .i64 0, .bool xlf, .slice A1 n1 c1, .slice A2 n2 c2, .slice A3 n3 c3], ?_, A1, c1, A2, c2, A3, c3, rfl, ?_, ?_, ?_, ?_⟩
  · simp [results, Try.f65, go_sem, e0, e1, e2, e3, e4]
  · exact (own_st5 (ownBelow15 (ownBelow15 O1.out ST2.out) ST3.out) HORD.out.2).mono hle
  · exact (own_st5 (ownBelow15 O2.out ST3.out) HORD.out.2).mono hle
  · exact (own_st5 O3.out HORD.out.2).mono hle
  · exact below_st5 (below_step HB0.out hS3) HORD.out.1 _ _ _ _ _
end Go.Proofs.Ytpaklhifnndeoaa
end

section
namespace Go.Proofs.Ytpaklhifnndeoaa
open Go.RowKit
set_option linter.unusedVariables false

theorem flatS_drop {α : Type} {f : α → List Value} {s : Nat} (hs : ∀ e, (f e).length = s) (l : List α) (k : Nat) : flatS f (l.drop k) = (flatS f l).drop (k * s) := by
  have h := List.take_append_drop k l
  have h2 := congrArg (flatS f) h
  rw [flatS_app, flatS_take hs] at h2
  exact List.append_cancel_left (h2.trans (List.take_append_drop (k * s) (flatS f l)).symm)
theorem take_min15 {α : Type} (l : List α) (f n : Nat) (h : n = l.length) : l.take (min f n) = l.take f := by
  subst h
  by_cases hf : f ≤ l.length
  · rw [Nat.min_eq_left hf]
  · rw [Nat.min_eq_right (by omega), List.take_length, List.take_of_length_le (by omega)]
theorem drop_min15 {α : Type} (l : List α) (f n : Nat) (h : n = l.length) : l.drop (min f n) = l.drop f := by
  subst h
  by_cases hf : f ≤ l.length
  · rw [Nat.min_eq_left hf]
  · rw [Nat.min_eq_right (by omega), List.drop_length, List.drop_of_length_le (by omega)]
theorem one_ve (l : List VE) : ∀ u ∈ flatS veL l, u.oneCell' = true := by
  intro u hu
  unfold flatS at hu
  obtain ⟨e, _, he⟩ := List.mem_flatMap.1 hu
  simp only [veL, List.mem_cons, List.mem_nil_iff, or_false] at he
  rcases he with rfl | rfl <;> rfl
theorem one_nd (l : List NDV) : ∀ u ∈ flatS ndL l, u.oneCell' = true := by
  intro u hu
  unfold flatS at hu
  obtain ⟨e, _, he⟩ := List.mem_flatMap.1 hu
  simp only [ndL, List.mem_cons, List.mem_nil_iff, or_false] at he
  rcases he with rfl | rfl | rfl | rfl | rfl <;> rfl
theorem one_str {α : Type} (g : α → List UInt8) (l : List α) : ∀ u ∈ l.map (fun y => strV (g y)), u.oneCell' = true := by
  intro u hu
  obtain ⟨y, _, rfl⟩ := List.mem_map.1 hu
  rfl
def swapL {α : Type} (f t : Nat) (l m : List α) : List α := l.take f ++ (m ++ l.drop t)
def RowL (F : Nat → Prop) (w : World) (x : NDV) (l : List Lf) : Prop := RwF F w x.kA x.kn x.kc 1 (l.map fun y => strV y.k) ∧ (∃ vs, RwF F w x.vA x.vn x.vc 2 (flatS veL vs) ∧ Both (ValR F w) vs l) ∧ RwF F w x.dA x.dn x.dc 5 []
def RowB (F : Nat → Prop) (w : World) (x : NDV) (l : List (List UInt8 × Tr)) : Prop := RwF F w x.kA x.kn x.kc 1 (l.map fun y => strV y.1) ∧ RwF F w x.vA x.vn x.vc 2 [] ∧ ∃ ks, RwF F w x.dA x.dn x.dc 5 (flatS ndL ks) ∧ Both (fun e (y : List UInt8 × Tr) => RepT F w e y.2) ks l
theorem RwF.zero {F : Nat → Prop} {w : World} {A : Option Addr} {n c s : Nat} (h : RwF F w A n c s []) (hs : 0 < s) : n = 0 := by
  have h1 := h.len
  rw [List.length_nil] at h1
  rcases Nat.mul_eq_zero.1 h1.symm with h | h
  · exact h
  · omega
theorem repT_rowL {F : Nat → Prop} {w : World} {x : NDV} {p : Int} {l : List Lf} : RepT F w x (.leaf p l) ↔ x.p = p ∧ x.lf = true ∧ RowL F w x l := by
  rw [repT_leaf]
  constructor
  · rintro ⟨h1, h2, h3, h4, h5, h6⟩
    exact ⟨h1, h2, h3, h4, h5 ▸ h6⟩
  · rintro ⟨h1, h2, h3, h4, h5⟩
    have h0 := h5.zero (by omega)
    exact ⟨h1, h2, h3, h4, h0, h0 ▸ h5⟩
theorem repT_rowB {F : Nat → Prop} {w : World} {x : NDV} {p : Int} {l : List (List UInt8 × Tr)} : RepT F w x (.branch p l) ↔ x.p = p ∧ x.lf = false ∧ RowB F w x l := by
  rw [repT_branch]
  constructor
  · rintro ⟨h1, h2, h3, h4, h5, h6⟩
    exact ⟨h1, h2, h3, h4 ▸ h5, h6⟩
  · rintro ⟨h1, h2, h3, h5, h6⟩
    have h0 := h5.zero (by omega)
    exact ⟨h1, h2, h3, h0, h0 ▸ h5, h6⟩
section
variable {F G : Nat → Prop} {w w' : World} {x : NDV}
theorem RowL.move {l : List Lf} (h : RowL F w x l) (hm : ∀ g, F g → g < w.heap.size → G g ∧ w'.heap[g]? = w.heap[g]?) : RowL G w' x l := by
  obtain ⟨h1, ⟨vs, h2, h3⟩, h4⟩ := h
  exact ⟨h1.move hm, ⟨vs, h2.move hm, h3.mono fun x y _ _ h => ⟨h.1, h.2.move hm⟩⟩, h4.move hm⟩
theorem RowB.move {l : List (List UInt8 × Tr)} (h : RowB F w x l) (hm : ∀ g, F g → g < w.heap.size → G g ∧ w'.heap[g]? = w.heap[g]?) : RowB G w' x l := by
  obtain ⟨h1, h2, ks, h3, h4⟩ := h
  exact ⟨h1.move hm, h2.move hm, ks, h3.move hm, h4.mono fun x y _ _ h => RepT.move hm h⟩
theorem RowL.below {l : List Lf} (h : RowL F w x l) (hb : Below w.heap.size w w') : RowL F w' x l := h.move fun g hg hl => ⟨hg, hb.block g hl⟩
theorem RowB.below {l : List (List UInt8 × Tr)} (h : RowB F w x l) (hb : Below w.heap.size w w') : RowB F w' x l := h.move fun g hg hl => ⟨hg, hb.block g hl⟩
end
structure OwnL (F : Nat → Prop) (B : Nat) (w : World) (z : NDV) (l : List Lf) (vs : List VE) : Prop where
  key : w.ownsRow B 9 1 (.slice z.kA z.kn z.kc) z.kn (l.map fun y => strV y.k)
  val : w.ownsRow B 84 2 (.slice z.vA z.vn z.vc) z.vn (flatS veL vs)
  kid : w.ownsRow B 29 5 (.slice z.dA z.dn z.dc) z.dn []
  both : Both (ValR F w) vs l
structure OwnB (F : Nat → Prop) (B : Nat) (w : World) (z : NDV) (l : List (List UInt8 × Tr)) (ks : List NDV) : Prop where
  key : w.ownsRow B 9 1 (.slice z.kA z.kn z.kc) z.kn (l.map fun y => strV y.1)
  val : w.ownsRow B 84 2 (.slice z.vA z.vn z.vc) z.vn []
  kid : w.ownsRow B 29 5 (.slice z.dA z.dn z.dc) z.dn (flatS ndL ks)
  both : Both (fun e (y : List UInt8 × Tr) => RepT F w e y.2) ks l
theorem RwF.ofOwn {B : Nat} {w : World} {e : TypeId} {A : Option Addr} {n c s : Nat} {xs : List Value} (h : w.ownsRow B e s (.slice A n c) n xs) : RwF (fun g => B ≤ g) w A n c s xs := by
  obtain ⟨A2, c2, e, hr⟩ := RwF.own h
  injection e with e1 e2 e3
  subst e1 e3
  exact hr
section
variable {F : Nat → Prop} {B : Nat} {w w' : World} {z : NDV}
theorem OwnL.row {l : List Lf} {vs : List VE} (h : OwnL F B w z l vs) : RowL (Fw F B) w z l :=
  ⟨(RwF.ofOwn h.key).mono fun g hg => .inr hg, ⟨vs, (RwF.ofOwn h.val).mono fun g hg => .inr hg, h.both.mono fun x y _ _ h => ⟨h.1, h.2.mono fun g hg => .inl hg⟩⟩, (RwF.ofOwn h.kid).mono fun g hg => .inr hg⟩
theorem OwnB.row {l : List (List UInt8 × Tr)} {ks : List NDV} (h : OwnB F B w z l ks) : RowB (Fw F B) w z l :=
  ⟨(RwF.ofOwn h.key).mono fun g hg => .inr hg, (RwF.ofOwn h.val).mono fun g hg => .inr hg, ks, (RwF.ofOwn h.kid).mono fun g hg => .inr hg, h.both.mono fun x y _ _ h => RepT.mono h fun g hg => .inl hg⟩
theorem OwnL.below {l : List Lf} {vs : List VE} (h : OwnL F B w z l vs) (hb : Below w.heap.size w w') : OwnL F B w' z l vs :=
  ⟨ownBelow15 h.key hb, ownBelow15 h.val hb, ownBelow15 h.kid hb, h.both.mono fun x y _ _ h => ⟨h.1, h.2.below hb⟩⟩
theorem OwnB.below {l : List (List UInt8 × Tr)} {ks : List NDV} (h : OwnB F B w z l ks) (hb : Below w.heap.size w w') : OwnB F B w' z l ks :=
  ⟨ownBelow15 h.key hb, ownBelow15 h.val hb, ownBelow15 h.kid hb, h.both.mono fun x y _ _ h => RepT.stay h hb⟩
theorem OwnL.mono {l : List Lf} {vs : List VE} {B' : Nat} (h : OwnL F B w z l vs) (hb : B' ≤ B) : OwnL F B' w z l vs := ⟨h.key.mono hb, h.val.mono hb, h.kid.mono hb, h.both⟩
theorem OwnB.mono {l : List (List UInt8 × Tr)} {ks : List NDV} {B' : Nat} (h : OwnB F B w z l ks) (hb : B' ≤ B) : OwnB F B' w z l ks := ⟨h.key.mono hb, h.val.mono hb, h.kid.mono hb, h.both⟩
end
theorem Both.swap {α β : Type} {R : α → β → Prop} {a a' : List α} {b b' : List β} (h : Both R a b) (h' : Both R a' b') (f t : Nat) : Both R (swapL f t a a') (swapL f t b b') := (h.take f).app (h'.app (h.drop t))
def SwapL (F : Nat → Prop) (lf : Bool) (l : List Lf) (w : World) (e : Ending) (w' : World) : Prop := ∃ z vs, e = .returned (ndV z) ∧ z.p = 0 ∧ z.lf = lf ∧ OwnL F w.heap.size w' z l vs ∧ Below w.heap.size w w'
def SwapB (F : Nat → Prop) (lf : Bool) (l : List (List UInt8 × Tr)) (w : World) (e : Ending) (w' : World) : Prop := ∃ z ks, e = .returned (ndV z) ∧ z.p = 0 ∧ z.lf = lf ∧ OwnB F w.heap.size w' z l ks ∧ Below w.heap.size w w'
theorem swap_str {α : Type} (g : α → List UInt8) {l m : List α} {n : Nat} (hn : n = l.length) (f t : Nat) : (l.map fun y => strV (g y)).take (min f n * 1) ++ ((m.map fun y => strV (g y)) ++ (l.map fun y => strV (g y)).drop (min t n * 1)) = (swapL f t l m).map fun y => strV (g y) := by
  rw [Nat.mul_one, Nat.mul_one, take_min15 _ f n (by simpa using hn), drop_min15 _ t n (by simpa using hn)]
  simp [swapL, List.map_take, List.map_drop]
theorem swap_flat {α : Type} {g : α → List Value} {s : Nat} (hs : ∀ e, (g e).length = s) {l m : List α} {n : Nat} (hn : n = l.length) (f t : Nat) : (flatS g l).take (min f n * s) ++ (flatS g m ++ (flatS g l).drop (min t n * s)) = flatS g (swapL f t l m) := by
  rw [← flatS_take hs, ← flatS_drop hs, take_min15 _ f n hn, drop_min15 _ t n hn, ← flatS_app, ← flatS_app]
  rfl
theorem trSwap_leaf (F : Nat → Prop) (x y : NDV) (l m : List Lf) (f t : Nat) (w : World) (h : RowL F w x l) (h2 : RowL F w y m) (hl : l.length ≤ 1000) (hm : m.length ≤ 1000) (hft : f ≤ t) (ht : t ≤ 9223372036854775807) :
    Calls Try.prog 65 #[ndV x, .int .i64 (f : Int), .int .i64 (t : Int), ndV y] w (SwapL F x.lf (swapL f t l m) w) := by
  obtain ⟨xp, xlf, xkA, xkn, xkc, xvA, xvn, xvc, xdA, xdn, xdc⟩ := x
  obtain ⟨yp, ylf, ykA, ykn, ykc, yvA, yvn, yvc, ydA, ydn, ydc⟩ := y
  obtain ⟨hk, ⟨vs, hv, hb⟩, hd⟩ := h
  obtain ⟨hk2, ⟨vs2, hv2, hb2⟩, hd2⟩ := h2
  simp only at hk hv hd hk2 hv2 hd2
  have e1 : xkn = l.length := by have := hk.len; simpa using this.symm
  have e2 : ykn = m.length := by have := hk2.len; simpa using this.symm
  have e3 : xvn = vs.length := hv.lenS veL_len (by omega)
  have e4 : yvn = vs2.length := hv2.lenS veL_len (by omega)
  have e5 : xdn = 0 := hd.zero (by omega)
  have e6 : ydn = 0 := hd2.zero (by omega)
  have g1 := hb.1
  have g2 := hb2.1
  refine (trSwap_rows F xp yp xlf ylf xkA xvA xdA ykA yvA ydA xkn xkc xvn xvc xdn xdc ykn ykc yvn yvc ydn ydc f t _ _ _ _ _ _ w hk hv hd hk2 hv2 hd2 (one_str _ _) (one_ve _) (by simp) (one_str _ _) (one_ve _) (by simp) (by omega) hft ht).mono ?_
  rintro e w' ⟨A1, c1, A2, c2, A3, c3, rfl, o1, o2, o3, hbl⟩
  rw [swap_str _ e1] at o1
  rw [swap_flat veL_len e3] at o2
  simp only [List.take_nil, List.drop_nil, List.append_nil] at o3
  exact ⟨_, swapL f t vs vs2, rfl, rfl, rfl, ⟨o1, o2, o3, (hb.swap hb2 f t).mono fun x y _ _ h => ⟨h.1, h.2.below hbl⟩⟩, hbl⟩
theorem trSwap_branch (F : Nat → Prop) (x y : NDV) (l m : List (List UInt8 × Tr)) (f t : Nat) (w : World) (h : RowB F w x l) (h2 : RowB F w y m) (hl : l.length ≤ 1000) (hm : m.length ≤ 1000) (hft : f ≤ t) (ht : t ≤ 9223372036854775807) :
    Calls Try.prog 65 #[ndV x, .int .i64 (f : Int), .int .i64 (t : Int), ndV y] w (SwapB F x.lf (swapL f t l m) w) := by
  obtain ⟨xp, xlf, xkA, xkn, xkc, xvA, xvn, xvc, xdA, xdn, xdc⟩ := x
  obtain ⟨yp, ylf, ykA, ykn, ykc, yvA, yvn, yvc, ydA, ydn, ydc⟩ := y
  obtain ⟨hk, hv, ks, hd, hb⟩ := h
  obtain ⟨hk2, hv2, ks2, hd2, hb2⟩ := h2
  simp only at hk hv hd hk2 hv2 hd2
  have e1 : xkn = l.length := by have := hk.len; simpa using this.symm
  have e2 : ykn = m.length := by have := hk2.len; simpa using this.symm
  have e3 : xdn = ks.length := hd.lenS ndL_len (by omega)
  have e4 : ydn = ks2.length := hd2.lenS ndL_len (by omega)
  have e5 : xvn = 0 := hv.zero (by omega)
  have e6 : yvn = 0 := hv2.zero (by omega)
  have g1 := hb.1
  have g2 := hb2.1
  refine (trSwap_rows F xp yp xlf ylf xkA xvA xdA ykA yvA ydA xkn xkc xvn xvc xdn xdc ykn ykc yvn yvc ydn ydc f t _ _ _ _ _ _ w hk hv hd hk2 hv2 hd2 (one_str _ _) (by simp) (one_nd _) (one_str _ _) (by simp) (one_nd _) (by omega) hft ht).mono ?_
  rintro e w' ⟨A1, c1, A2, c2, A3, c3, rfl, o1, o2, o3, hbl⟩
  rw [swap_str _ e1] at o1
  rw [swap_flat ndL_len e3] at o3
  simp only [List.take_nil, List.drop_nil, List.append_nil] at o2
  exact ⟨_, swapL f t ks ks2, rfl, rfl, rfl, ⟨o1, o2, o3, (hb.swap hb2 f t).mono fun x y _ _ h => RepT.stay h hbl⟩, hbl⟩
theorem row_zeroL (F : Nat → Prop) (w : World) (p : Int) (lf : Bool) : RowL F w ⟨p, lf, none, 0, 0, none, 0, 0, none, 0, 0⟩ [] := ⟨RwF.none_ _ _ _, ⟨[], RwF.none_ _ _ _, Both.nil⟩, RwF.none_ _ _ _⟩
theorem row_zeroB (F : Nat → Prop) (w : World) (p : Int) (lf : Bool) : RowB F w ⟨p, lf, none, 0, 0, none, 0, 0, none, 0, 0⟩ [] := ⟨RwF.none_ _ _ _, RwF.none_ _ _ _, [], RwF.none_ _ _ _, Both.nil⟩
end Go.Proofs.Ytpaklhifnndeoaa
end
