import Derived.Test.YtoelojlabmconaaJPpg
/- Of a claim's texts, joined: Pph. No statement but in the last. -/
namespace Go.Proofs.Ytoelojlabmconaa
open Go.RowKit
set_option linter.unusedVariables false

section
variable {w w' : World} {gR gH gO o : Nat} {held : Bool} {B : Option Addr} {m c : Nat} {l : List (Nat × List Int)} {ss : List Sl13}
theorem wrapI13 {x : Int} (h1 : -100000 ≤ x) (h2 : x ≤ 100000) : IntKind.i64.wrap x = x := by rw [IntKind.wrap_i64]; omega
theorem wrapN13 {x : Nat} (h : x ≤ 100000) : IntKind.i64.wrap (x : Int) = (x : Int) := wrapI13 (by omega) (by omega)
def MonoW (o : Nat) (held : Bool) (l : List (Nat × List Int)) (m : Nat) : Prop := ∀ i j, i ≤ j → j < m → rankW o held l i ≤ rankW o held l j
def NilEnd (w : World) (e : Ending) (w' : World) : Prop := e = .returned (.tuple #[]) ∧ Below w.heap.size w w'
set_option maxRecDepth 100000 in
set_option maxHeartbeats 4000000 in
theorem insC13_any (a e : Nat) (h : St13 w gR gH gO o held B m l ss) (hmono : MonoW o held l m) (hm : m ≤ 1000) (hae : a ≤ e) (hem : e ≤ m) :
    Calls Try.prog 42 #[.slice B m c, .int .i64 (a : Int), .int .i64 (e : Int), .func (.func 31) #[] #[.pointer (some ⟨gR, 0, none⟩)]] w (NilEnd w) := by
  have hmx : Try.prog.follows .mixedOrders = true := by kernel_rfl
  have H0 := Lib.hid h
  have HMO := Lib.hid hmono
  clear h hmono
  unfold NilEnd
  go_enter Try.func42, Try.ntmps42
  go_wp2
  go_loopw [8] (fun vi wr => ∃ i : Nat, vi = .int .i64 (i : Int) ∧ a < i ∧ i ≤ e + 1 ∧ Below w.heap.size w wr) (fun vi _ => e + 1 - (intOf vi).toNat)
  case atStart => exact ⟨a + 1, by go_num, by omega, by omega, Below.refl _ _⟩
  case round =>
    obtain ⟨i, rfl, hai, hie, hb⟩ := hrel
    have HBO := Lib.hid hb
    clear hb
    by_cases hlt : i < e
    · obtain ⟨wo, hwo⟩ : ∃ wo : World, wo = wr := ⟨_, rfl⟩
      subst hwo
      have l1 : (i : Int) < (e : Int) := by omega
      go_wp2
      go_loopw [9] (fun vj wr => vj = .int .i64 (i : Int) ∧ Below w.heap.size w wr) (fun _ _ => 0)
      case atStart => exact ⟨rfl, HBO.out⟩
      case round =>
        obtain ⟨rfl, hb⟩ := hrel
        have HB := Lib.hid hb
        clear hb
        obtain ⟨i0, hi0⟩ : ∃ i0, i = i0 + 1 := ⟨i - 1, by omega⟩
        obtain ⟨b, off, rfl, hc⟩ := (H0.out.below HB.out).row (by omega)
        obtain ⟨hx1, hx2⟩ := hc i (by omega)
        obtain ⟨hy1, hy2⟩ := hc i0 (by omega)
        have hmo := HMO.out i0 i (by omega) (by omega)
        unfold rankW at hmo
        obtain ⟨t1, ht1⟩ : ∃ t, (l.getD i w00).1 = t := ⟨_, rfl⟩
        obtain ⟨⟨A1, n1, c1⟩, hs1⟩ : ∃ s, ss.getD i sl0 = s := ⟨_, rfl⟩
        obtain ⟨t2, ht2⟩ : ∃ t, (l.getD i0 w00).1 = t := ⟨_, rfl⟩
        obtain ⟨⟨A2, n2, c2⟩, hs2⟩ : ∃ s, ss.getD i0 sl0 = s := ⟨_, rfl⟩
        rw [ht1] at hx1 hmo
        rw [ht2] at hy1 hmo
        rw [hs1] at hx2
        rw [hs2] at hy2
        simp only at hx2 hy2
        have HX1 := Lib.hid hx1
        have HX2 := Lib.hid hx2
        have HY1 := Lib.hid hy1
        have HY2 := Lib.hid hy2
        have HCM : Hid (∀ w1, Below wr.heap.size wr w1 → _) := Lib.hid (fun w1 b1 => relB13_any (w := w1) t1 t2 A1 A2 n1 c1 n2 c2 ((H0.out.below HB.out).below b1).rk)
        obtain ⟨dd, hdd⟩ : ∃ r, rankN o held t1 - rankN o held t2 = r := ⟨_, rfl⟩
        rw [hdd] at HCM
        have hd0 : ¬ dd < 0 := by omega
        have hd1 : 0 ≤ dd := by omega
        have hS0 : (fun w' : World => Below wr.heap.size wr w') wr.drew := (Below.refl _ _).drew
        clear hc hx1 hx2 hy1 hy2 hmo ht1 hs1 ht2 hs2 hdd
        have hI : (i : Int) - 1 = (i0 : Int) := by omega
        have hw_i0 : IntKind.i64.wrap (i0 : Int) = (i0 : Int) := wrapN13 (by omega)
        have i1 : (a : Int) < (i : Int) := by omega
        have i2 : (0 : Int) ≤ (i : Int) := by omega
        have i3 : (i : Int) < (m : Int) := by omega
        have i4 : (0 : Int) ≤ (i0 : Int) := by omega
        have i5 : (i0 : Int) < (m : Int) := by omega
        have HI0 := Lib.hid hi0
        clear hi0
        go_wp2
        first | (rename_i K hK; refine wp_held (fun w' : World => Below wr.heap.size wr w') K hmx ?_ (fun _ _ h => h)) | (rename_i K hK hz; refine wp_held (fun w' : World => Below wr.heap.size wr w') K hmx ?_ (fun _ _ h => h))
        refine wpAnyH_take (i := 0) (v := .int .i64 (i : Int)) (lit rfl) (by kernel_rfl) (by kernel_rfl) (by kernel_rfl) (fun _ _ _ h => h) (Or.inl ⟨by rfl, ?_⟩) hS0 ?_
        · rintro w6 sb
          go_simp
        simp only [Act.put, List.setIfInBounds_toArray, List.set_cons_zero, List.set_cons_succ]
        refine wpAnyH_take (i := 1) (v := .int .i64 (a : Int)) (lit rfl) (by kernel_rfl) (by kernel_rfl) (by kernel_rfl) (fun _ _ _ h => h) (Or.inl ⟨by rfl, ?_⟩) hS0 ?_
        · rintro w6 sb
          go_simp
        simp only [Act.put, List.setIfInBounds_toArray, List.set_cons_zero, List.set_cons_succ]
        refine wpAnyH_take (i := 2) (v := .bool true) (lit rfl) (by kernel_rfl) (by kernel_rfl) (by kernel_rfl) (fun _ _ _ h => h) (Or.inl ⟨by rfl, ?_⟩) hS0 ?_
        · rintro w6 sb
          go_simp
        simp only [Act.put, List.setIfInBounds_toArray, List.set_cons_zero, List.set_cons_succ]
        refine wpAnyH_take (i := 3) (v := .bool true) (lit rfl) (by kernel_rfl) (by kernel_rfl) (by kernel_rfl) (fun _ _ _ h => h) (Or.inl ⟨by rfl, ?_⟩) hS0 ?_
        · rintro w6 sb
          go_simp
        simp only [Act.put, List.setIfInBounds_toArray, List.set_cons_zero, List.set_cons_succ]
        refine wpAnyH_take (i := 4) (v := .func (.func 31) #[] #[.pointer (some ⟨gR, 0, none⟩)]) (lit rfl) (by kernel_rfl) (by kernel_rfl) (by kernel_rfl) (fun _ _ _ h => h) (Or.inl ⟨by rfl, ?_⟩) hS0 ?_
        · rintro w6 sb
          go_simp
        simp only [Act.put, List.setIfInBounds_toArray, List.set_cons_zero, List.set_cons_succ]
        refine wpAnyH_take (i := 5) (v := .slice (some ⟨b, off, none⟩) m c) (lit rfl) (by kernel_rfl) (by kernel_rfl) (by kernel_rfl) (fun _ _ _ h => h) (Or.inl ⟨by rfl, ?_⟩) hS0 ?_
        · rintro w6 sb
          go_simp
        simp only [Act.put, List.setIfInBounds_toArray, List.set_cons_zero, List.set_cons_succ]
        refine wpAnyH_take (i := 6) (v := .int .i64 (i : Int)) (lit rfl) (by kernel_rfl) (by kernel_rfl) (by kernel_rfl) (fun _ _ _ h => h) (Or.inl ⟨by rfl, ?_⟩) hS0 ?_
        · rintro w6 sb
          go_simp
        simp only [Act.put, List.setIfInBounds_toArray, List.set_cons_zero, List.set_cons_succ]
        refine wpAnyH_take (i := 7) (v := .pointer (some ⟨b, off + i * 2, none⟩)) (lit rfl) (by kernel_rfl) (by kernel_rfl) (by kernel_rfl) (fun _ _ _ h => h) (Or.inl ⟨by rfl, ?_⟩) hS0 ?_
        · rintro w6 sb
          go_simp
        simp only [Act.put, List.setIfInBounds_toArray, List.set_cons_zero, List.set_cons_succ]
        refine wpAnyH_take (i := 8) (v := .agg #[.int .u64 (t1 : Int), .slice A1 n1 c1]) (lit rfl) (by kernel_rfl) (by kernel_rfl) (by kernel_rfl) (fun _ _ _ h => h) (Or.inl ⟨by rfl, ?_⟩) hS0 ?_
        · rintro w6 sb
          have k1 := cell_below (w := wr) HX1.out sb
          have k2 := cell_below (w := wr) HX2.out sb
          go_simp
        simp only [Act.put, List.setIfInBounds_toArray, List.set_cons_zero, List.set_cons_succ]
        refine wpAnyH_take (i := 9) (v := .slice (some ⟨b, off, none⟩) m c) (lit rfl) (by kernel_rfl) (by kernel_rfl) (by kernel_rfl) (fun _ _ _ h => h) (Or.inl ⟨by rfl, ?_⟩) hS0 ?_
        · rintro w6 sb
          go_simp
        simp only [Act.put, List.setIfInBounds_toArray, List.set_cons_zero, List.set_cons_succ]
        refine wpAnyH_take (i := 10) (v := .int .i64 (i : Int)) (lit rfl) (by kernel_rfl) (by kernel_rfl) (by kernel_rfl) (fun _ _ _ h => h) (Or.inl ⟨by rfl, ?_⟩) hS0 ?_
        · rintro w6 sb
          go_simp
        simp only [Act.put, List.setIfInBounds_toArray, List.set_cons_zero, List.set_cons_succ]
        refine wpAnyH_take (i := 11) (v := .int .i64 (i0 : Int)) (lit rfl) (by kernel_rfl) (by kernel_rfl) (by kernel_rfl) (fun _ _ _ h => h) (Or.inl ⟨by rfl, ?_⟩) hS0 ?_
        · rintro w6 sb
          go_simp
        simp only [Act.put, List.setIfInBounds_toArray, List.set_cons_zero, List.set_cons_succ]
        refine wpAnyH_take (i := 12) (v := .pointer (some ⟨b, off + i0 * 2, none⟩)) (lit rfl) (by kernel_rfl) (by kernel_rfl) (by kernel_rfl) (fun _ _ _ h => h) (Or.inl ⟨by rfl, ?_⟩) hS0 ?_
        · rintro w6 sb
          go_simp
        simp only [Act.put, List.setIfInBounds_toArray, List.set_cons_zero, List.set_cons_succ]
        refine wpAnyH_take (i := 13) (v := .agg #[.int .u64 (t2 : Int), .slice A2 n2 c2]) (lit rfl) (by kernel_rfl) (by kernel_rfl) (by kernel_rfl) (fun _ _ _ h => h) (Or.inl ⟨by rfl, ?_⟩) hS0 ?_
        · rintro w6 sb
          have k1 := cell_below (w := wr) HY1.out sb
          have k2 := cell_below (w := wr) HY2.out sb
          go_simp
        simp only [Act.put, List.setIfInBounds_toArray, List.set_cons_zero, List.set_cons_succ]
        refine wpAnyH_ready (rs := [14]) (by kernel_rfl) (by simp) ?_
        refine AllReadyH.cons (lit rfl) (fun K5 hK5 => ?_) AllReadyH.nil
        go_simp
        go_at_call 31
        (with_reducible refine (HCM.out _ hS0).mono ?_)
        rintro e20 w20 ⟨rfl, b20⟩
        have h20 : (fun w' : World => Below wr.heap.size wr w') w20 := hS0.trans (b20.mono hS0.size)
        refine hK5.out _ _ h20 (fun _ => ?_)
        clear hK5 K5
        refine wpAnyH_take (i := 15) (v := .bool false) (lit rfl) (by kernel_rfl) (by kernel_rfl) (by kernel_rfl) (fun _ _ _ h => h) (Or.inl ⟨by rfl, ?_⟩) h20 ?_
        · rintro w6 sb
          go_simp
        simp only [Act.put, List.setIfInBounds_toArray, List.set_cons_zero, List.set_cons_succ]
        refine wpAnyH_take (i := 16) (v := .bool false) (lit rfl) (by kernel_rfl) (by kernel_rfl) (by kernel_rfl) (fun _ _ _ h => h) (Or.inl ⟨by rfl, ?_⟩) h20 ?_
        · rintro w6 sb
          go_simp
        simp only [Act.put, List.setIfInBounds_toArray, List.set_cons_zero, List.set_cons_succ]
        refine wpAnyH_done (by kernel_rfl) ?_ _
        refine hK _ _ ?_
        go_wp2
        go_roundw
        case rel => exact ⟨i + 1, by go_num, by omega, by omega, HB.out.trans (h20.mono HB.out.size)⟩
        case measure => simp [intOf]; omega
    · have l1 : ¬ (i : Int) < (e : Int) := by omega
      go_wp2
      go_end0
      exact ⟨rfl, HBO.out⟩
set_option maxRecDepth 100000 in
set_option maxHeartbeats 8000000 in
theorem symC13_aux (hmono : MonoW o held l m) (hm : m ≤ 1000) (N : Nat) : ∀ (a mm e : Nat), e - a ≤ N → a < mm → mm < e → e ≤ m → ∀ w, St13 w gR gH gO o held B m l ss →
    Calls Try.prog 43 #[.slice B m c, .int .i64 (a : Int), .int .i64 (mm : Int), .int .i64 (e : Int), .func (.func 31) #[] #[.pointer (some ⟨gR, 0, none⟩)]] w (NilEnd w) := by
  induction N with
  | zero =>
    intro a mm e hN ham hme hem w h
    omega
  | succ N ih =>
    intro a mm e hN ham hme hem w h
    have hmx : Try.prog.follows .mixedOrders = true := by kernel_rfl
    have HIH := Lib.hid ih
    have H0 := Lib.hid h
    have HMO := Lib.hid hmono
    have HNN := Lib.hid hN
    clear h hN ih
    unfold NilEnd at HIH ⊢
    have hw_mm : IntKind.i64.wrap (mm : Int) = (mm : Int) := wrapN13 (by omega)
    have hw_a : IntKind.i64.wrap (a : Int) = (a : Int) := wrapN13 (by omega)
    by_cases c1 : mm = a + 1
    · have hd : (mm : Int) - (a : Int) = 1 := by omega
      have hd2 : (mm : Int) - 1 = (a : Int) := by omega
      have hw1 : IntKind.i64.wrap 1 = 1 := wrapI13 (by decide) (by decide)
      have HC1 := Lib.hid c1
      clear c1
      go_enter Try.func43, Try.ntmps43
      go_wp2
      go_loopw [10, 11] (fun vi vj wr => ∃ j : Nat, vi = .int .i64 (mm : Int) ∧ vj = .int .i64 (j : Int) ∧ mm ≤ j ∧ j ≤ e ∧ Below w.heap.size w wr) (fun _ vj _ => (intOf vj).toNat)
      case atStart => exact ⟨e, rfl, rfl, by omega, Nat.le_refl _, Below.refl _ _⟩
      case round =>
        obtain ⟨j, rfl, rfl, hmj, hje, hb⟩ := hrel
        have HB := Lib.hid hb
        clear hb
        by_cases hlt : mm < j
        · have l1 : (mm : Int) < (j : Int) := by omega
          obtain ⟨h, hh⟩ : ∃ h : Nat, h = (mm + j) / 2 := ⟨_, rfl⟩
          have hq : ((mm : Int) + (j : Int)) / 2 = (h : Int) := by omega
          have hih : mm ≤ h := by omega
          have hhj : h < j := by omega
          obtain ⟨b, off, rfl, hc⟩ := (H0.out.below HB.out).row (by omega)
          obtain ⟨hx1, hx2⟩ := hc h (by omega)
          obtain ⟨hy1, hy2⟩ := hc a (by omega)
          have hmo := HMO.out a h (by omega) (by omega)
          unfold rankW at hmo
          obtain ⟨t1, ht1⟩ : ∃ t, (l.getD h w00).1 = t := ⟨_, rfl⟩
          obtain ⟨⟨A1, n1, c1⟩, hs1⟩ : ∃ s, ss.getD h sl0 = s := ⟨_, rfl⟩
          obtain ⟨t2, ht2⟩ : ∃ t, (l.getD a w00).1 = t := ⟨_, rfl⟩
          obtain ⟨⟨A2, n2, c2⟩, hs2⟩ : ∃ s, ss.getD a sl0 = s := ⟨_, rfl⟩
          rw [ht1] at hx1 hmo
          rw [ht2] at hy1 hmo
          rw [hs1] at hx2
          rw [hs2] at hy2
          simp only at hx2 hy2
          have HX1 := Lib.hid hx1
          have HX2 := Lib.hid hx2
          have HY1 := Lib.hid hy1
          have HY2 := Lib.hid hy2
          have HCM : Hid (∀ w1, Below wr.heap.size wr w1 → _) := Lib.hid (fun w1 b1 => relB13_any (w := w1) t1 t2 A1 A2 n1 c1 n2 c2 ((H0.out.below HB.out).below b1).rk)
          obtain ⟨dd, hdd⟩ : ∃ r, rankN o held t1 - rankN o held t2 = r := ⟨_, rfl⟩
          rw [hdd] at HCM
          have hd0 : ¬ dd < 0 := by omega
          have hd1 : 0 ≤ dd := by omega
          have hS0 : (fun w' : World => Below wr.heap.size wr w') wr.drew := (Below.refl _ _).drew
          clear hc hx1 hx2 hy1 hy2 hmo ht1 hs1 ht2 hs2 hdd
          have i2 : (0 : Int) ≤ (h : Int) := by omega
          have i3 : (h : Int) < (m : Int) := by omega
          have i4 : (0 : Int) ≤ (a : Int) := by omega
          have i5 : (a : Int) < (m : Int) := by omega
          clear hh
          go_wp2
          first | (rename_i K hK; refine wp_held (fun w' : World => Below wr.heap.size wr w') K hmx ?_ (fun _ _ h => h)) | (rename_i K hK hz; refine wp_held (fun w' : World => Below wr.heap.size wr w') K hmx ?_ (fun _ _ h => h))
          refine wpAnyH_take (i := 0) (v := .func (.func 31) #[] #[.pointer (some ⟨gR, 0, none⟩)]) (lit rfl) (by kernel_rfl) (by kernel_rfl) (by kernel_rfl) (fun _ _ _ h => h) (Or.inl ⟨by rfl, ?_⟩) hS0 ?_
          · rintro w6 sb
            go_simp
          simp only [Act.put, List.setIfInBounds_toArray, List.set_cons_zero, List.set_cons_succ]
          refine wpAnyH_take (i := 1) (v := .slice (some ⟨b, off, none⟩) m c) (lit rfl) (by kernel_rfl) (by kernel_rfl) (by kernel_rfl) (fun _ _ _ h => h) (Or.inl ⟨by rfl, ?_⟩) hS0 ?_
          · rintro w6 sb
            go_simp
          simp only [Act.put, List.setIfInBounds_toArray, List.set_cons_zero, List.set_cons_succ]
          refine wpAnyH_take (i := 2) (v := .int .i64 (h : Int)) (lit rfl) (by kernel_rfl) (by kernel_rfl) (by kernel_rfl) (fun _ _ _ h => h) (Or.inl ⟨by rfl, ?_⟩) hS0 ?_
          · rintro w6 sb
            go_simp
          simp only [Act.put, List.setIfInBounds_toArray, List.set_cons_zero, List.set_cons_succ]
          refine wpAnyH_take (i := 3) (v := .pointer (some ⟨b, off + h * 2, none⟩)) (lit rfl) (by kernel_rfl) (by kernel_rfl) (by kernel_rfl) (fun _ _ _ h => h) (Or.inl ⟨by rfl, ?_⟩) hS0 ?_
          · rintro w6 sb
            go_simp
          simp only [Act.put, List.setIfInBounds_toArray, List.set_cons_zero, List.set_cons_succ]
          refine wpAnyH_take (i := 4) (v := .agg #[.int .u64 (t1 : Int), .slice A1 n1 c1]) (lit rfl) (by kernel_rfl) (by kernel_rfl) (by kernel_rfl) (fun _ _ _ h => h) (Or.inl ⟨by rfl, ?_⟩) hS0 ?_
          · rintro w6 sb
            have k1 := cell_below (w := wr) HX1.out sb
            have k2 := cell_below (w := wr) HX2.out sb
            go_simp
          simp only [Act.put, List.setIfInBounds_toArray, List.set_cons_zero, List.set_cons_succ]
          refine wpAnyH_take (i := 5) (v := .slice (some ⟨b, off, none⟩) m c) (lit rfl) (by kernel_rfl) (by kernel_rfl) (by kernel_rfl) (fun _ _ _ h => h) (Or.inl ⟨by rfl, ?_⟩) hS0 ?_
          · rintro w6 sb
            go_simp
          simp only [Act.put, List.setIfInBounds_toArray, List.set_cons_zero, List.set_cons_succ]
          refine wpAnyH_take (i := 6) (v := .int .i64 (a : Int)) (lit rfl) (by kernel_rfl) (by kernel_rfl) (by kernel_rfl) (fun _ _ _ h => h) (Or.inl ⟨by rfl, ?_⟩) hS0 ?_
          · rintro w6 sb
            go_simp
          simp only [Act.put, List.setIfInBounds_toArray, List.set_cons_zero, List.set_cons_succ]
          refine wpAnyH_take (i := 7) (v := .pointer (some ⟨b, off + a * 2, none⟩)) (lit rfl) (by kernel_rfl) (by kernel_rfl) (by kernel_rfl) (fun _ _ _ h => h) (Or.inl ⟨by rfl, ?_⟩) hS0 ?_
          · rintro w6 sb
            go_simp
          simp only [Act.put, List.setIfInBounds_toArray, List.set_cons_zero, List.set_cons_succ]
          refine wpAnyH_take (i := 8) (v := .agg #[.int .u64 (t2 : Int), .slice A2 n2 c2]) (lit rfl) (by kernel_rfl) (by kernel_rfl) (by kernel_rfl) (fun _ _ _ h => h) (Or.inl ⟨by rfl, ?_⟩) hS0 ?_
          · rintro w6 sb
            have k1 := cell_below (w := wr) HY1.out sb
            have k2 := cell_below (w := wr) HY2.out sb
            go_simp
          simp only [Act.put, List.setIfInBounds_toArray, List.set_cons_zero, List.set_cons_succ]
          refine wpAnyH_ready (rs := [9]) (by kernel_rfl) (by simp) ?_
          refine AllReadyH.cons (lit rfl) (fun K5 hK5 => ?_) AllReadyH.nil
          refine step_open rfl ?_
          go_simp
          go_at_call 31
          (with_reducible refine (HCM.out _ hS0).mono ?_)
          rintro e20 w20 ⟨rfl, b20⟩
          have h20 : (fun w' : World => Below wr.heap.size wr w') w20 := hS0.trans (b20.mono hS0.size)
          refine hK5.out _ _ h20 (fun _ => ?_)
          clear hK5 K5
          refine wpAnyH_take (i := 10) (v := .bool false) (lit rfl) (by kernel_rfl) (by kernel_rfl) (by kernel_rfl) (fun _ _ _ h => h) (Or.inl ⟨by rfl, ?_⟩) h20 ?_
          · rintro w6 sb
            go_simp
          simp only [Act.put, List.setIfInBounds_toArray, List.set_cons_zero, List.set_cons_succ]
          refine wpAnyH_done (by kernel_rfl) ?_ _
          refine hK _ _ ?_
          go_wp2
          go_roundw
          case rel => exact ⟨h, rfl, rfl, by omega, by omega, HB.out.trans (h20.mono HB.out.size)⟩
          case measure => simp [intOf]; omega
        · obtain rfl : j = mm := by omega
          have l1 : ¬ (j : Int) < (j : Int) := by omega
          obtain ⟨wo, hwo⟩ : ∃ wo : World, wo = wr := ⟨_, rfl⟩
          subst hwo
          go_wp2
          go_loopw [13] (fun v wr => v = .int .i64 (a : Int) ∧ wr = wo) (fun _ _ => 0)
          case atStart => exact ⟨rfl, rfl⟩
          case round =>
            obtain ⟨rfl, rfl⟩ := hrel
            have l2 : ¬ (a : Int) < (a : Int) := by omega
            go_wp2
            refine bodyPost_ret (results_none rfl _ _ _) rfl ?_
            exact ⟨rfl, HB.out⟩
    · by_cases c2 : e = mm + 1
      · have hn1 : ¬ (mm : Int) - (a : Int) = 1 := by omega
        have hw2 : IntKind.i64.wrap ((mm : Int) - (a : Int)) = (mm : Int) - (a : Int) := wrapI13 (by omega) (by omega)
        have hd : (e : Int) - (mm : Int) = 1 := by omega
        have hw1 : IntKind.i64.wrap 1 = 1 := wrapI13 (by decide) (by decide)
        have HC1 := Lib.hid c1
        have HC2 := Lib.hid c2
        clear c1 c2
        go_enter Try.func43, Try.ntmps43
        go_wp2
        go_loopw [14, 15] (fun vi vj wr => ∃ i : Nat, vi = .int .i64 (i : Int) ∧ vj = .int .i64 (mm : Int) ∧ a ≤ i ∧ i ≤ mm ∧ Below w.heap.size w wr) (fun vi _ _ => mm - (intOf vi).toNat)
        case atStart => exact ⟨a, rfl, rfl, Nat.le_refl _, by omega, Below.refl _ _⟩
        case round =>
          obtain ⟨i, rfl, rfl, hai, him, hb⟩ := hrel
          have HB := Lib.hid hb
          clear hb
          by_cases hlt : i < mm
          · have l1 : (i : Int) < (mm : Int) := by omega
            obtain ⟨h, hh⟩ : ∃ h : Nat, h = (i + mm) / 2 := ⟨_, rfl⟩
            have hq : ((i : Int) + (mm : Int)) / 2 = (h : Int) := by omega
            have hih : i ≤ h := by omega
            have hhj : h < mm := by omega
            obtain ⟨b, off, rfl, hc⟩ := (H0.out.below HB.out).row (by omega)
            obtain ⟨hx1, hx2⟩ := hc mm (by omega)
            obtain ⟨hy1, hy2⟩ := hc h (by omega)
            have hmo := HMO.out h mm (by omega) (by omega)
            unfold rankW at hmo
            obtain ⟨t1, ht1⟩ : ∃ t, (l.getD mm w00).1 = t := ⟨_, rfl⟩
            obtain ⟨⟨A1, n1, c1⟩, hs1⟩ : ∃ s, ss.getD mm sl0 = s := ⟨_, rfl⟩
            obtain ⟨t2, ht2⟩ : ∃ t, (l.getD h w00).1 = t := ⟨_, rfl⟩
            obtain ⟨⟨A2, n2, c2⟩, hs2⟩ : ∃ s, ss.getD h sl0 = s := ⟨_, rfl⟩
            rw [ht1] at hx1 hmo
            rw [ht2] at hy1 hmo
            rw [hs1] at hx2
            rw [hs2] at hy2
            simp only at hx2 hy2
            have HX1 := Lib.hid hx1
            have HX2 := Lib.hid hx2
            have HY1 := Lib.hid hy1
            have HY2 := Lib.hid hy2
            have HCM : Hid (∀ w1, Below wr.heap.size wr w1 → _) := Lib.hid (fun w1 b1 => relB13_any (w := w1) t1 t2 A1 A2 n1 c1 n2 c2 ((H0.out.below HB.out).below b1).rk)
            obtain ⟨dd, hdd⟩ : ∃ r, rankN o held t1 - rankN o held t2 = r := ⟨_, rfl⟩
            rw [hdd] at HCM
            have hd0 : ¬ dd < 0 := by omega
            have hd1 : 0 ≤ dd := by omega
            have hS0 : (fun w' : World => Below wr.heap.size wr w') wr.drew := (Below.refl _ _).drew
            clear hc hx1 hx2 hy1 hy2 hmo ht1 hs1 ht2 hs2 hdd
            have i2 : (0 : Int) ≤ (h : Int) := by omega
            have i3 : (h : Int) < (m : Int) := by omega
            have i4 : (0 : Int) ≤ (mm : Int) := by omega
            have i5 : (mm : Int) < (m : Int) := by omega
            clear hh
            go_wp2
            first | (rename_i K hK; refine wp_held (fun w' : World => Below wr.heap.size wr w') K hmx ?_ (fun _ _ h => h)) | (rename_i K hK hz; refine wp_held (fun w' : World => Below wr.heap.size wr w') K hmx ?_ (fun _ _ h => h))
            refine wpAnyH_take (i := 0) (v := .func (.func 31) #[] #[.pointer (some ⟨gR, 0, none⟩)]) (lit rfl) (by kernel_rfl) (by kernel_rfl) (by kernel_rfl) (fun _ _ _ h => h) (Or.inl ⟨by rfl, ?_⟩) hS0 ?_
            · rintro w6 sb
              go_simp
            simp only [Act.put, List.setIfInBounds_toArray, List.set_cons_zero, List.set_cons_succ]
            refine wpAnyH_take (i := 1) (v := .slice (some ⟨b, off, none⟩) m c) (lit rfl) (by kernel_rfl) (by kernel_rfl) (by kernel_rfl) (fun _ _ _ h => h) (Or.inl ⟨by rfl, ?_⟩) hS0 ?_
            · rintro w6 sb
              go_simp
            simp only [Act.put, List.setIfInBounds_toArray, List.set_cons_zero, List.set_cons_succ]
            refine wpAnyH_take (i := 2) (v := .int .i64 (mm : Int)) (lit rfl) (by kernel_rfl) (by kernel_rfl) (by kernel_rfl) (fun _ _ _ h => h) (Or.inl ⟨by rfl, ?_⟩) hS0 ?_
            · rintro w6 sb
              go_simp
            simp only [Act.put, List.setIfInBounds_toArray, List.set_cons_zero, List.set_cons_succ]
            refine wpAnyH_take (i := 3) (v := .pointer (some ⟨b, off + mm * 2, none⟩)) (lit rfl) (by kernel_rfl) (by kernel_rfl) (by kernel_rfl) (fun _ _ _ h => h) (Or.inl ⟨by rfl, ?_⟩) hS0 ?_
            · rintro w6 sb
              go_simp
            simp only [Act.put, List.setIfInBounds_toArray, List.set_cons_zero, List.set_cons_succ]
            refine wpAnyH_take (i := 4) (v := .agg #[.int .u64 (t1 : Int), .slice A1 n1 c1]) (lit rfl) (by kernel_rfl) (by kernel_rfl) (by kernel_rfl) (fun _ _ _ h => h) (Or.inl ⟨by rfl, ?_⟩) hS0 ?_
            · rintro w6 sb
              have k1 := cell_below (w := wr) HX1.out sb
              have k2 := cell_below (w := wr) HX2.out sb
              go_simp
            simp only [Act.put, List.setIfInBounds_toArray, List.set_cons_zero, List.set_cons_succ]
            refine wpAnyH_take (i := 5) (v := .slice (some ⟨b, off, none⟩) m c) (lit rfl) (by kernel_rfl) (by kernel_rfl) (by kernel_rfl) (fun _ _ _ h => h) (Or.inl ⟨by rfl, ?_⟩) hS0 ?_
            · rintro w6 sb
              go_simp
            simp only [Act.put, List.setIfInBounds_toArray, List.set_cons_zero, List.set_cons_succ]
            refine wpAnyH_take (i := 6) (v := .int .i64 (h : Int)) (lit rfl) (by kernel_rfl) (by kernel_rfl) (by kernel_rfl) (fun _ _ _ h => h) (Or.inl ⟨by rfl, ?_⟩) hS0 ?_
            · rintro w6 sb
              go_simp
            simp only [Act.put, List.setIfInBounds_toArray, List.set_cons_zero, List.set_cons_succ]
            refine wpAnyH_take (i := 7) (v := .pointer (some ⟨b, off + h * 2, none⟩)) (lit rfl) (by kernel_rfl) (by kernel_rfl) (by kernel_rfl) (fun _ _ _ h => h) (Or.inl ⟨by rfl, ?_⟩) hS0 ?_
            · rintro w6 sb
              go_simp
            simp only [Act.put, List.setIfInBounds_toArray, List.set_cons_zero, List.set_cons_succ]
            refine wpAnyH_take (i := 8) (v := .agg #[.int .u64 (t2 : Int), .slice A2 n2 c2]) (lit rfl) (by kernel_rfl) (by kernel_rfl) (by kernel_rfl) (fun _ _ _ h => h) (Or.inl ⟨by rfl, ?_⟩) hS0 ?_
            · rintro w6 sb
              have k1 := cell_below (w := wr) HY1.out sb
              have k2 := cell_below (w := wr) HY2.out sb
              go_simp
            simp only [Act.put, List.setIfInBounds_toArray, List.set_cons_zero, List.set_cons_succ]
            refine wpAnyH_ready (rs := [9]) (by kernel_rfl) (by simp) ?_
            refine AllReadyH.cons (lit rfl) (fun K5 hK5 => ?_) AllReadyH.nil
            refine step_open rfl ?_
            go_simp
            go_at_call 31
            (with_reducible refine (HCM.out _ hS0).mono ?_)
            rintro e20 w20 ⟨rfl, b20⟩
            have h20 : (fun w' : World => Below wr.heap.size wr w') w20 := hS0.trans (b20.mono hS0.size)
            refine hK5.out _ _ h20 (fun _ => ?_)
            clear hK5 K5
            refine wpAnyH_take (i := 10) (v := .bool false) (lit rfl) (by kernel_rfl) (by kernel_rfl) (by kernel_rfl) (fun _ _ _ h => h) (Or.inl ⟨by rfl, ?_⟩) h20 ?_
            · rintro w6 sb
              go_simp
            simp only [Act.put, List.setIfInBounds_toArray, List.set_cons_zero, List.set_cons_succ]
            refine wpAnyH_take (i := 11) (v := .bool true) (lit rfl) (by kernel_rfl) (by kernel_rfl) (by kernel_rfl) (fun _ _ _ h => h) (Or.inl ⟨by rfl, ?_⟩) h20 ?_
            · rintro w6 sb
              go_simp
            simp only [Act.put, List.setIfInBounds_toArray, List.set_cons_zero, List.set_cons_succ]
            refine wpAnyH_done (by kernel_rfl) ?_ _
            refine hK _ _ ?_
            go_wp2
            go_roundw
            case rel => first | exact ⟨h + 1, by go_num, by omega, by omega, HB.out.trans (h20.mono HB.out.size)⟩ | exact ⟨h + 1, by go_num, rfl, by omega, by omega, HB.out.trans (h20.mono HB.out.size)⟩
            case measure => simp [intOf]; omega
          · obtain rfl : i = mm := by omega
            have l1 : ¬ (i : Int) < (i : Int) := by omega
            obtain ⟨wo, hwo⟩ : ∃ wo : World, wo = wr := ⟨_, rfl⟩
            subst hwo
            go_wp2
            go_loopw [17] (fun v wr => v = .int .i64 (i : Int) ∧ wr = wo) (fun _ _ => 0)
            case atStart => exact ⟨rfl, rfl⟩
            case round =>
              obtain ⟨rfl, rfl⟩ := hrel
              go_wp2
              refine bodyPost_ret (results_none rfl _ _ _) rfl ?_
              exact ⟨rfl, HB.out⟩
      · have hn1 : ¬ (mm : Int) - (a : Int) = 1 := by omega
        have hn2 : ¬ (e : Int) - (mm : Int) = 1 := by omega
        have hw2 : IntKind.i64.wrap ((mm : Int) - (a : Int)) = (mm : Int) - (a : Int) := wrapI13 (by omega) (by omega)
        have hw3 : IntKind.i64.wrap ((e : Int) - (mm : Int)) = (e : Int) - (mm : Int) := wrapI13 (by omega) (by omega)
        obtain ⟨mid, hmid⟩ : ∃ x : Nat, x = (a + e) / 2 := ⟨_, rfl⟩
        have hq0 : ((a : Int) + (e : Int)) / 2 = (mid : Int) := by omega
        have hma : a < mid := by omega
        have hmb : mid < e := by omega
        have hmc : a + e ≤ mid + mid + 1 ∧ mid + mid ≤ a + e := by omega
        obtain ⟨hmc1, hmc2⟩ := hmc
        obtain ⟨nn, hnn⟩ : ∃ x : Nat, x = mid + mm := ⟨_, rfl⟩
        have hnI : (mid : Int) + (mm : Int) = (nn : Int) := by omega
        obtain ⟨pp, hpp⟩ : ∃ x : Nat, nn = x + 1 := ⟨nn - 1, by omega⟩
        have hpI : (nn : Int) - 1 = (pp : Int) := by omega
        have hw_pp : IntKind.i64.wrap (pp : Int) = (pp : Int) := wrapN13 (by omega)
        have hw_mid : IntKind.i64.wrap (mid : Int) = (mid : Int) := wrapN13 (by omega)
        have HC1 := Lib.hid c1
        have HC2 := Lib.hid c2
        clear hmid c1 c2
        by_cases hgt : mid < mm
        · have l0 : (mid : Int) < (mm : Int) := by omega
          obtain ⟨s0, hs0⟩ : ∃ x : Nat, nn = x + e := ⟨nn - e, by omega⟩
          have hsI : (nn : Int) - (e : Int) = (s0 : Int) := by omega
          have hw_s0 : IntKind.i64.wrap (s0 : Int) = (s0 : Int) := wrapN13 (by omega)
          have hs1 : a ≤ s0 := by omega
          have hs2 : s0 ≤ mid := by omega
          have hEnd : (nn : Int) - (mid : Int) = (mm : Int) := by omega
          have HPP := Lib.hid (by omega : pp + 1 = mid + mm)
          have HS0 := Lib.hid hs0
          clear hnn hpp hs0
          go_enter Try.func43, Try.ntmps43
          go_wp2
          go_loopw [20, 21] (fun vi vj wr => ∃ s : Nat, vi = .int .i64 (s : Int) ∧ vj = .int .i64 (mid : Int) ∧ s0 ≤ s ∧ s ≤ mid ∧ Below w.heap.size w wr) (fun vi _ _ => mid - (intOf vi).toNat)
          case atStart => exact ⟨s0, rfl, rfl, Nat.le_refl _, hs2, Below.refl _ _⟩
          case round =>
            obtain ⟨s, rfl, rfl, hss, hsm, hb⟩ := hrel
            have HB := Lib.hid hb
            clear hb
            by_cases hlt : s < mid
            · have l1 : (s : Int) < (mid : Int) := by omega
              obtain ⟨h, hh⟩ : ∃ h : Nat, h = (s + mid) / 2 := ⟨_, rfl⟩
              have hq : ((s : Int) + (mid : Int)) / 2 = (h : Int) := by omega
              have hih : s ≤ h := by omega
              have hhj : h < mid := by omega
              obtain ⟨pc, hpc⟩ : ∃ x : Nat, pp = x + h := ⟨pp - h, by have := HPP.out; omega⟩
              have hpcI : (pp : Int) - (h : Int) = (pc : Int) := by omega
              have hpc1 : mm ≤ pc := by have := HPP.out; omega
              have hpc2 : pc < e := by have := HPP.out; have := HS0.out; omega
              have hw_pc : IntKind.i64.wrap (pc : Int) = (pc : Int) := wrapN13 (by omega)
              have HPC := Lib.hid hpc
              clear hpc hh
              obtain ⟨b, off, rfl, hc⟩ := (H0.out.below HB.out).row (by omega)
              obtain ⟨hx1, hx2⟩ := hc pc (by omega)
              obtain ⟨hy1, hy2⟩ := hc h (by omega)
              have hmo := HMO.out h pc (by omega) (by omega)
              unfold rankW at hmo
              obtain ⟨t1, ht1⟩ : ∃ t, (l.getD pc w00).1 = t := ⟨_, rfl⟩
              obtain ⟨⟨A1, n1, c1⟩, hs1⟩ : ∃ s, ss.getD pc sl0 = s := ⟨_, rfl⟩
              obtain ⟨t2, ht2⟩ : ∃ t, (l.getD h w00).1 = t := ⟨_, rfl⟩
              obtain ⟨⟨A2, n2, c2⟩, hs2⟩ : ∃ s, ss.getD h sl0 = s := ⟨_, rfl⟩
              rw [ht1] at hx1 hmo
              rw [ht2] at hy1 hmo
              rw [hs1] at hx2
              rw [hs2] at hy2
              simp only at hx2 hy2
              have HX1 := Lib.hid hx1
              have HX2 := Lib.hid hx2
              have HY1 := Lib.hid hy1
              have HY2 := Lib.hid hy2
              have HCM : Hid (∀ w1, Below wr.heap.size wr w1 → _) := Lib.hid (fun w1 b1 => relB13_any (w := w1) t1 t2 A1 A2 n1 c1 n2 c2 ((H0.out.below HB.out).below b1).rk)
              obtain ⟨dd, hdd⟩ : ∃ r, rankN o held t1 - rankN o held t2 = r := ⟨_, rfl⟩
              rw [hdd] at HCM
              have hd0 : ¬ dd < 0 := by omega
              have hd1 : 0 ≤ dd := by omega
              have hS0 : (fun w' : World => Below wr.heap.size wr w') wr.drew := (Below.refl _ _).drew
              clear hc hx1 hx2 hy1 hy2 hmo ht1 hs1 ht2 hs2 hdd
              have i2 : (0 : Int) ≤ (h : Int) := by omega
              have i3 : (h : Int) < (m : Int) := by omega
              have i4 : (0 : Int) ≤ (pc : Int) := by omega
              have i5 : (pc : Int) < (m : Int) := by omega
              go_wp2
              first | (rename_i K hK; refine wp_held (fun w' : World => Below wr.heap.size wr w') K hmx ?_ (fun _ _ h => h)) | (rename_i K hK hz; refine wp_held (fun w' : World => Below wr.heap.size wr w') K hmx ?_ (fun _ _ h => h))
              refine wpAnyH_take (i := 0) (v := .func (.func 31) #[] #[.pointer (some ⟨gR, 0, none⟩)]) (lit rfl) (by kernel_rfl) (by kernel_rfl) (by kernel_rfl) (fun _ _ _ h => h) (Or.inl ⟨by rfl, ?_⟩) hS0 ?_
              · rintro w6 sb
                go_simp
              simp only [Act.put, List.setIfInBounds_toArray, List.set_cons_zero, List.set_cons_succ]
              refine wpAnyH_take (i := 1) (v := .slice (some ⟨b, off, none⟩) m c) (lit rfl) (by kernel_rfl) (by kernel_rfl) (by kernel_rfl) (fun _ _ _ h => h) (Or.inl ⟨by rfl, ?_⟩) hS0 ?_
              · rintro w6 sb
                go_simp
              simp only [Act.put, List.setIfInBounds_toArray, List.set_cons_zero, List.set_cons_succ]
              refine wpAnyH_take (i := 2) (v := .int .i64 (pp : Int)) (lit rfl) (by kernel_rfl) (by kernel_rfl) (by kernel_rfl) (fun _ _ _ h => h) (Or.inl ⟨by rfl, ?_⟩) hS0 ?_
              · rintro w6 sb
                go_simp
              simp only [Act.put, List.setIfInBounds_toArray, List.set_cons_zero, List.set_cons_succ]
              refine wpAnyH_take (i := 3) (v := .int .i64 (h : Int)) (lit rfl) (by kernel_rfl) (by kernel_rfl) (by kernel_rfl) (fun _ _ _ h => h) (Or.inl ⟨by rfl, ?_⟩) hS0 ?_
              · rintro w6 sb
                go_simp
              simp only [Act.put, List.setIfInBounds_toArray, List.set_cons_zero, List.set_cons_succ]
              refine wpAnyH_take (i := 4) (v := .int .i64 (pc : Int)) (lit rfl) (by kernel_rfl) (by kernel_rfl) (by kernel_rfl) (fun _ _ _ h => h) (Or.inl ⟨by rfl, ?_⟩) hS0 ?_
              · rintro w6 sb
                go_simp
              simp only [Act.put, List.setIfInBounds_toArray, List.set_cons_zero, List.set_cons_succ]
              refine wpAnyH_take (i := 5) (v := .pointer (some ⟨b, off + pc * 2, none⟩)) (lit rfl) (by kernel_rfl) (by kernel_rfl) (by kernel_rfl) (fun _ _ _ h => h) (Or.inl ⟨by rfl, ?_⟩) hS0 ?_
              · rintro w6 sb
                go_simp
              simp only [Act.put, List.setIfInBounds_toArray, List.set_cons_zero, List.set_cons_succ]
              refine wpAnyH_take (i := 6) (v := .agg #[.int .u64 (t1 : Int), .slice A1 n1 c1]) (lit rfl) (by kernel_rfl) (by kernel_rfl) (by kernel_rfl) (fun _ _ _ h => h) (Or.inl ⟨by rfl, ?_⟩) hS0 ?_
              · rintro w6 sb
                have k1 := cell_below (w := wr) HX1.out sb
                have k2 := cell_below (w := wr) HX2.out sb
                go_simp
              simp only [Act.put, List.setIfInBounds_toArray, List.set_cons_zero, List.set_cons_succ]
              refine wpAnyH_take (i := 7) (v := .slice (some ⟨b, off, none⟩) m c) (lit rfl) (by kernel_rfl) (by kernel_rfl) (by kernel_rfl) (fun _ _ _ h => h) (Or.inl ⟨by rfl, ?_⟩) hS0 ?_
              · rintro w6 sb
                go_simp
              simp only [Act.put, List.setIfInBounds_toArray, List.set_cons_zero, List.set_cons_succ]
              refine wpAnyH_take (i := 8) (v := .int .i64 (h : Int)) (lit rfl) (by kernel_rfl) (by kernel_rfl) (by kernel_rfl) (fun _ _ _ h => h) (Or.inl ⟨by rfl, ?_⟩) hS0 ?_
              · rintro w6 sb
                go_simp
              simp only [Act.put, List.setIfInBounds_toArray, List.set_cons_zero, List.set_cons_succ]
              refine wpAnyH_take (i := 9) (v := .pointer (some ⟨b, off + h * 2, none⟩)) (lit rfl) (by kernel_rfl) (by kernel_rfl) (by kernel_rfl) (fun _ _ _ h => h) (Or.inl ⟨by rfl, ?_⟩) hS0 ?_
              · rintro w6 sb
                go_simp
              simp only [Act.put, List.setIfInBounds_toArray, List.set_cons_zero, List.set_cons_succ]
              refine wpAnyH_take (i := 10) (v := .agg #[.int .u64 (t2 : Int), .slice A2 n2 c2]) (lit rfl) (by kernel_rfl) (by kernel_rfl) (by kernel_rfl) (fun _ _ _ h => h) (Or.inl ⟨by rfl, ?_⟩) hS0 ?_
              · rintro w6 sb
                have k1 := cell_below (w := wr) HY1.out sb
                have k2 := cell_below (w := wr) HY2.out sb
                go_simp
              simp only [Act.put, List.setIfInBounds_toArray, List.set_cons_zero, List.set_cons_succ]
              refine wpAnyH_ready (rs := [11]) (by kernel_rfl) (by simp) ?_
              refine AllReadyH.cons (lit rfl) (fun K5 hK5 => ?_) AllReadyH.nil
              refine step_open rfl ?_
              go_simp
              go_at_call 31
              (with_reducible refine (HCM.out _ hS0).mono ?_)
              rintro e20 w20 ⟨rfl, b20⟩
              have h20 : (fun w' : World => Below wr.heap.size wr w') w20 := hS0.trans (b20.mono hS0.size)
              refine hK5.out _ _ h20 (fun _ => ?_)
              clear hK5 K5
              refine wpAnyH_take (i := 12) (v := .bool false) (lit rfl) (by kernel_rfl) (by kernel_rfl) (by kernel_rfl) (fun _ _ _ h => h) (Or.inl ⟨by rfl, ?_⟩) h20 ?_
              · rintro w6 sb
                go_simp
              simp only [Act.put, List.setIfInBounds_toArray, List.set_cons_zero, List.set_cons_succ]
              refine wpAnyH_take (i := 13) (v := .bool true) (lit rfl) (by kernel_rfl) (by kernel_rfl) (by kernel_rfl) (fun _ _ _ h => h) (Or.inl ⟨by rfl, ?_⟩) h20 ?_
              · rintro w6 sb
                go_simp
              simp only [Act.put, List.setIfInBounds_toArray, List.set_cons_zero, List.set_cons_succ]
              refine wpAnyH_done (by kernel_rfl) ?_ _
              refine hK _ _ ?_
              go_wp2
              go_roundw
              case rel => first | exact ⟨h + 1, by go_num, by omega, by omega, HB.out.trans (h20.mono HB.out.size)⟩ | exact ⟨h + 1, by go_num, rfl, by omega, by omega, HB.out.trans (h20.mono HB.out.size)⟩
              case measure => simp [intOf]; omega
            · obtain rfl : s = mid := by omega
              have l1 : ¬ (s : Int) < (s : Int) := by omega
              have l2 : ¬ (mm : Int) < (mm : Int) := by omega
              have l3 : (mm : Int) < (e : Int) := by omega
              have l4 : (a : Int) < (s : Int) := by omega
              have HCR := Lib.hid (HIH.out s mm e (by have := HNN.out; omega) (by omega) (by omega) hem wr (H0.out.below HB.out))
              go_wp2_with (go_at_call 43; (with_reducible refine HCR.out.mono ?_); rintro e9 w9 ⟨rfl, b9⟩; have B9 := Lib.hid (below_step HB.out b9); clear b9)
              go_end0
              exact ⟨rfl, B9.out⟩
        · have l0 : ¬ (mid : Int) < (mm : Int) := by omega
          have hEnd : (nn : Int) - (mm : Int) = (mid : Int) := by omega
          have HPP := Lib.hid (by omega : pp + 1 = mid + mm)
          clear hnn hpp
          go_enter Try.func43, Try.ntmps43
          go_wp2
          go_loopw [20, 21] (fun vi vj wr => ∃ s : Nat, vi = .int .i64 (s : Int) ∧ vj = .int .i64 (mm : Int) ∧ a ≤ s ∧ s ≤ mm ∧ Below w.heap.size w wr) (fun vi _ _ => mm - (intOf vi).toNat)
          case atStart => exact ⟨a, rfl, rfl, Nat.le_refl _, by omega, Below.refl _ _⟩
          case round =>
            obtain ⟨s, rfl, rfl, hss, hsm, hb⟩ := hrel
            have HB := Lib.hid hb
            clear hb
            by_cases hlt : s < mm
            · have l1 : (s : Int) < (mm : Int) := by omega
              obtain ⟨h, hh⟩ : ∃ h : Nat, h = (s + mm) / 2 := ⟨_, rfl⟩
              have hq : ((s : Int) + (mm : Int)) / 2 = (h : Int) := by omega
              have hih : s ≤ h := by omega
              have hhj : h < mm := by omega
              obtain ⟨pc, hpc⟩ : ∃ x : Nat, pp = x + h := ⟨pp - h, by have := HPP.out; omega⟩
              have hpcI : (pp : Int) - (h : Int) = (pc : Int) := by omega
              have hpc1 : mid ≤ pc := by have := HPP.out; omega
              have hpc2 : pc < e := by have := HPP.out; omega
              have hw_pc : IntKind.i64.wrap (pc : Int) = (pc : Int) := wrapN13 (by omega)
              have HPC := Lib.hid hpc
              clear hpc hh
              obtain ⟨b, off, rfl, hc⟩ := (H0.out.below HB.out).row (by omega)
              obtain ⟨hx1, hx2⟩ := hc pc (by omega)
              obtain ⟨hy1, hy2⟩ := hc h (by omega)
              have hmo := HMO.out h pc (by omega) (by omega)
              unfold rankW at hmo
              obtain ⟨t1, ht1⟩ : ∃ t, (l.getD pc w00).1 = t := ⟨_, rfl⟩
              obtain ⟨⟨A1, n1, c1⟩, hs1⟩ : ∃ s, ss.getD pc sl0 = s := ⟨_, rfl⟩
              obtain ⟨t2, ht2⟩ : ∃ t, (l.getD h w00).1 = t := ⟨_, rfl⟩
              obtain ⟨⟨A2, n2, c2⟩, hs2⟩ : ∃ s, ss.getD h sl0 = s := ⟨_, rfl⟩
              rw [ht1] at hx1 hmo
              rw [ht2] at hy1 hmo
              rw [hs1] at hx2
              rw [hs2] at hy2
              simp only at hx2 hy2
              have HX1 := Lib.hid hx1
              have HX2 := Lib.hid hx2
              have HY1 := Lib.hid hy1
              have HY2 := Lib.hid hy2
              have HCM : Hid (∀ w1, Below wr.heap.size wr w1 → _) := Lib.hid (fun w1 b1 => relB13_any (w := w1) t1 t2 A1 A2 n1 c1 n2 c2 ((H0.out.below HB.out).below b1).rk)
              obtain ⟨dd, hdd⟩ : ∃ r, rankN o held t1 - rankN o held t2 = r := ⟨_, rfl⟩
              rw [hdd] at HCM
              have hd0 : ¬ dd < 0 := by omega
              have hd1 : 0 ≤ dd := by omega
              have hS0 : (fun w' : World => Below wr.heap.size wr w') wr.drew := (Below.refl _ _).drew
              clear hc hx1 hx2 hy1 hy2 hmo ht1 hs1 ht2 hs2 hdd
              have i2 : (0 : Int) ≤ (h : Int) := by omega
              have i3 : (h : Int) < (m : Int) := by omega
              have i4 : (0 : Int) ≤ (pc : Int) := by omega
              have i5 : (pc : Int) < (m : Int) := by omega
              go_wp2
              first | (rename_i K hK; refine wp_held (fun w' : World => Below wr.heap.size wr w') K hmx ?_ (fun _ _ h => h)) | (rename_i K hK hz; refine wp_held (fun w' : World => Below wr.heap.size wr w') K hmx ?_ (fun _ _ h => h))
              refine wpAnyH_take (i := 0) (v := .func (.func 31) #[] #[.pointer (some ⟨gR, 0, none⟩)]) (lit rfl) (by kernel_rfl) (by kernel_rfl) (by kernel_rfl) (fun _ _ _ h => h) (Or.inl ⟨by rfl, ?_⟩) hS0 ?_
              · rintro w6 sb
                go_simp
              simp only [Act.put, List.setIfInBounds_toArray, List.set_cons_zero, List.set_cons_succ]
              refine wpAnyH_take (i := 1) (v := .slice (some ⟨b, off, none⟩) m c) (lit rfl) (by kernel_rfl) (by kernel_rfl) (by kernel_rfl) (fun _ _ _ h => h) (Or.inl ⟨by rfl, ?_⟩) hS0 ?_
              · rintro w6 sb
                go_simp
              simp only [Act.put, List.setIfInBounds_toArray, List.set_cons_zero, List.set_cons_succ]
              refine wpAnyH_take (i := 2) (v := .int .i64 (pp : Int)) (lit rfl) (by kernel_rfl) (by kernel_rfl) (by kernel_rfl) (fun _ _ _ h => h) (Or.inl ⟨by rfl, ?_⟩) hS0 ?_
              · rintro w6 sb
                go_simp
              simp only [Act.put, List.setIfInBounds_toArray, List.set_cons_zero, List.set_cons_succ]
              refine wpAnyH_take (i := 3) (v := .int .i64 (h : Int)) (lit rfl) (by kernel_rfl) (by kernel_rfl) (by kernel_rfl) (fun _ _ _ h => h) (Or.inl ⟨by rfl, ?_⟩) hS0 ?_
              · rintro w6 sb
                go_simp
              simp only [Act.put, List.setIfInBounds_toArray, List.set_cons_zero, List.set_cons_succ]
              refine wpAnyH_take (i := 4) (v := .int .i64 (pc : Int)) (lit rfl) (by kernel_rfl) (by kernel_rfl) (by kernel_rfl) (fun _ _ _ h => h) (Or.inl ⟨by rfl, ?_⟩) hS0 ?_
              · rintro w6 sb
                go_simp
              simp only [Act.put, List.setIfInBounds_toArray, List.set_cons_zero, List.set_cons_succ]
              refine wpAnyH_take (i := 5) (v := .pointer (some ⟨b, off + pc * 2, none⟩)) (lit rfl) (by kernel_rfl) (by kernel_rfl) (by kernel_rfl) (fun _ _ _ h => h) (Or.inl ⟨by rfl, ?_⟩) hS0 ?_
              · rintro w6 sb
                go_simp
              simp only [Act.put, List.setIfInBounds_toArray, List.set_cons_zero, List.set_cons_succ]
              refine wpAnyH_take (i := 6) (v := .agg #[.int .u64 (t1 : Int), .slice A1 n1 c1]) (lit rfl) (by kernel_rfl) (by kernel_rfl) (by kernel_rfl) (fun _ _ _ h => h) (Or.inl ⟨by rfl, ?_⟩) hS0 ?_
              · rintro w6 sb
                have k1 := cell_below (w := wr) HX1.out sb
                have k2 := cell_below (w := wr) HX2.out sb
                go_simp
              simp only [Act.put, List.setIfInBounds_toArray, List.set_cons_zero, List.set_cons_succ]
              refine wpAnyH_take (i := 7) (v := .slice (some ⟨b, off, none⟩) m c) (lit rfl) (by kernel_rfl) (by kernel_rfl) (by kernel_rfl) (fun _ _ _ h => h) (Or.inl ⟨by rfl, ?_⟩) hS0 ?_
              · rintro w6 sb
                go_simp
              simp only [Act.put, List.setIfInBounds_toArray, List.set_cons_zero, List.set_cons_succ]
              refine wpAnyH_take (i := 8) (v := .int .i64 (h : Int)) (lit rfl) (by kernel_rfl) (by kernel_rfl) (by kernel_rfl) (fun _ _ _ h => h) (Or.inl ⟨by rfl, ?_⟩) hS0 ?_
              · rintro w6 sb
                go_simp
              simp only [Act.put, List.setIfInBounds_toArray, List.set_cons_zero, List.set_cons_succ]
              refine wpAnyH_take (i := 9) (v := .pointer (some ⟨b, off + h * 2, none⟩)) (lit rfl) (by kernel_rfl) (by kernel_rfl) (by kernel_rfl) (fun _ _ _ h => h) (Or.inl ⟨by rfl, ?_⟩) hS0 ?_
              · rintro w6 sb
                go_simp
              simp only [Act.put, List.setIfInBounds_toArray, List.set_cons_zero, List.set_cons_succ]
              refine wpAnyH_take (i := 10) (v := .agg #[.int .u64 (t2 : Int), .slice A2 n2 c2]) (lit rfl) (by kernel_rfl) (by kernel_rfl) (by kernel_rfl) (fun _ _ _ h => h) (Or.inl ⟨by rfl, ?_⟩) hS0 ?_
              · rintro w6 sb
                have k1 := cell_below (w := wr) HY1.out sb
                have k2 := cell_below (w := wr) HY2.out sb
                go_simp
              simp only [Act.put, List.setIfInBounds_toArray, List.set_cons_zero, List.set_cons_succ]
              refine wpAnyH_ready (rs := [11]) (by kernel_rfl) (by simp) ?_
              refine AllReadyH.cons (lit rfl) (fun K5 hK5 => ?_) AllReadyH.nil
              refine step_open rfl ?_
              go_simp
              go_at_call 31
              (with_reducible refine (HCM.out _ hS0).mono ?_)
              rintro e20 w20 ⟨rfl, b20⟩
              have h20 : (fun w' : World => Below wr.heap.size wr w') w20 := hS0.trans (b20.mono hS0.size)
              refine hK5.out _ _ h20 (fun _ => ?_)
              clear hK5 K5
              refine wpAnyH_take (i := 12) (v := .bool false) (lit rfl) (by kernel_rfl) (by kernel_rfl) (by kernel_rfl) (fun _ _ _ h => h) (Or.inl ⟨by rfl, ?_⟩) h20 ?_
              · rintro w6 sb
                go_simp
              simp only [Act.put, List.setIfInBounds_toArray, List.set_cons_zero, List.set_cons_succ]
              refine wpAnyH_take (i := 13) (v := .bool true) (lit rfl) (by kernel_rfl) (by kernel_rfl) (by kernel_rfl) (fun _ _ _ h => h) (Or.inl ⟨by rfl, ?_⟩) h20 ?_
              · rintro w6 sb
                go_simp
              simp only [Act.put, List.setIfInBounds_toArray, List.set_cons_zero, List.set_cons_succ]
              refine wpAnyH_done (by kernel_rfl) ?_ _
              refine hK _ _ ?_
              go_wp2
              go_roundw
              case rel => first | exact ⟨h + 1, by go_num, by omega, by omega, HB.out.trans (h20.mono HB.out.size)⟩ | exact ⟨h + 1, by go_num, rfl, by omega, by omega, HB.out.trans (h20.mono HB.out.size)⟩
              case measure => simp [intOf]; omega
            · obtain rfl : s = mm := by omega
              have l1 : ¬ (s : Int) < (s : Int) := by omega
              have l2 : ¬ (mid : Int) < (mid : Int) := by omega
              have l4 : (a : Int) < (s : Int) := by omega
              by_cases hsd : s < mid
              · have l3 : (s : Int) < (mid : Int) := by omega
                have HCR := Lib.hid (HIH.out a s mid (by have := HNN.out; omega) (by omega) (by omega) (by omega) wr (H0.out.below HB.out))
                go_wp2_with (go_at_call 43; (with_reducible refine HCR.out.mono ?_); rintro e9 w9 ⟨rfl, b9⟩; have B9 := Lib.hid (below_step HB.out b9); clear b9)
                go_end0
                exact ⟨rfl, B9.out⟩
              · have l3 : ¬ (s : Int) < (mid : Int) := by omega
                go_wp2
                go_end0
                exact ⟨rfl, HB.out⟩
end
end Go.Proofs.Ytoelojlabmconaa
