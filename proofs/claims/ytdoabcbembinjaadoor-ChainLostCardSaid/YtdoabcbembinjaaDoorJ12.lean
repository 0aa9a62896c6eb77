import Derived.Test.YtdoabcbembinjaaDoorJ11
import Derived.Test.YtdoabcbembinjaaDoorJ08
/- Of a claim's texts, joined: Chu Chv Chz Ced. No statement but in the last. -/
section
namespace Go.Proofs.YtdoabcbembinjaaDoor
open Go.RowKit
set_option linter.unusedVariables false

def mayN9 (x : Int) (left : Nat) (f : Int → Option Value) : Bool := if left = 0 then decide (x = 0) else pgOk x && (f x).isNone
set_option maxRecDepth 100000 in
theorem hMay_any (x : Int) (left mb : Nat) (f : Int → Option Value) (w : World) (hm : MapAt w mb f) (hf : ∀ k v, f k = some v → v = .agg #[]) :
    Calls Tryd.prog 41 #[.int .i64 x, .int .i64 left, .map (some mb)] w fun e w' => e = .returned (.bool (mayN9 x left f)) ∧ Below w.heap.size w w' := by
  by_cases hl : left = 0
  · subst hl
    by_cases hx : x = 0
    · subst hx
      go_enter Tryd.func41, Tryd.ntmps41
      go_wp2
      go_ret
      exact ⟨retb (by simp [mayN9]), Below.refl _ _⟩
    · have hx' : (x == 0) = false := by simpa using hx
      go_enter Tryd.func41, Tryd.ntmps41
      go_wp2
      go_ret
      exact ⟨retb (by simp [mayN9, hx]), Below.refl _ _⟩
  · have hne : ((left : Int) == 0) = false := by simp; omega
    have HP := Lib.hid (fun w1 => isPage_any x w1)
    have hzv : ∀ w, (zeroValue 95).run Tryd.prog w = .ok (.agg #[]) w := fun w => by kernel_rfl
    cases hfx : f x with
    | none =>
      have hlk := run_look_none (P := Tryd.prog) (mty := 92) (kt := 3) (et := 95) Tryd.underlying92 Tryd.underlying3 hzv hm hfx true
      simp only [if_true] at hlk
      have HM : Hid (mayN9 x left f = pgOk x) := Lib.hid (by unfold mayN9; rw [if_neg hl, hfx]; simp)
      rw [HM.out]
      clear hm hf hfx hl HM
      cases hp : pgOk x
      · rw [hp] at HP
        go_enter Tryd.func41, Tryd.ntmps41
        go_wp2_with (go_at_call 45; (with_reducible refine (HP.out _).mono ?_); rintro e w1 ⟨rfl, rfl⟩)
        go_ret
        exact ⟨rfl, (Below.refl _ w).alloc (Nat.le_refl _) _⟩
      · rw [hp] at HP
        go_enter Tryd.func41, Tryd.ntmps41
        go_wp2_with (go_at_call 45; (with_reducible refine (HP.out _).mono ?_); rintro e w1 ⟨rfl, rfl⟩)
        go_ret
        exact ⟨rfl, (Below.refl _ w).alloc (Nat.le_refl _) _⟩
    | some v =>
      obtain rfl := hf _ _ hfx
      have hlk := run_look_some (P := Tryd.prog) (mty := 92) (kt := 3) (et := 95) Tryd.underlying92 Tryd.underlying3 hm hfx true
      simp only [if_true] at hlk
      have HM : Hid (mayN9 x left f = false) := Lib.hid (by unfold mayN9; rw [if_neg hl, hfx]; simp)
      rw [HM.out]
      clear hm hf hfx hl HM
      cases hp : pgOk x
      · rw [hp] at HP
        go_enter Tryd.func41, Tryd.ntmps41
        go_wp2_with (go_at_call 45; (with_reducible refine (HP.out _).mono ?_); rintro e w1 ⟨rfl, rfl⟩)
        go_ret
        exact ⟨rfl, (Below.refl _ w).alloc (Nat.le_refl _) _⟩
      · rw [hp] at HP
        go_enter Tryd.func41, Tryd.ntmps41
        go_wp2_with (go_at_call 45; (with_reducible refine (HP.out _).mono ?_); rintro e w1 ⟨rfl, rfl⟩)
        go_ret
        exact ⟨rfl, (Below.refl _ w).alloc (Nat.le_refl _) _⟩
theorem getF_bad {rd : Int → List UInt8 × Int} {z f i : Nat} {p : Int} {s : List UInt8} {l : List Int} {r : List UInt8 × Int × Int} (hr : gpN (rd p).1 (rd p).2 (partZ z i) = r) (he : r.2.2 ≠ 0) : getF rd z (f + 1) i p s l = ([], [], r.2.2) := by
  subst hr
  unfold gpN at he ⊢
  rw [getF]
  split
  · rfl
  · split
    · rfl
    · rename_i h1 h2
      rw [if_neg h1, if_neg h2] at he
      by_cases h3 : badForm z i (rd p).1
      · have h3' := h3
        unfold badForm at h3'
        rw [if_pos h3, if_pos h3']
      · have h3' := h3
        unfold badForm at h3'
        rw [if_neg h3'] at he
        exact absurd rfl he
theorem gp_ok {b : List UInt8} {er : Int} {z : Nat} {r : List UInt8 × Int × Int} (hr : gpN b er z = r) (he : r.2.2 = 0) : er = 0 ∧ (unpN b).2.2 = 0 ∧ (∃ c, unpN b = (3, [c], 0) ∧ c.length = 2 + z) ∧ r = (restN b, nextN b, 0) ∧ (restN b).length = z := by
  subst hr
  unfold gpN at he ⊢
  by_cases h1 : er = 0
  · rw [if_neg (by simpa using h1)] at he ⊢
    by_cases h2 : (unpN b).2.2 = 0
    · rw [if_neg (by simpa using h2)] at he ⊢
      by_cases h3 : (unpN b).1 ≠ 3 ∨ (unpN b).2.1.length ≠ 1 ∨ ((unpN b).2.1.headD []).length ≠ 2 + z
      · rw [if_pos h3] at he
        cases he
      · rw [if_neg h3]
        rw [not_or, not_or] at h3
        obtain ⟨a1, a2, a3⟩ := h3
        simp only [ne_eq, Decidable.not_not] at a1 a2 a3
        obtain ⟨⟨kd, cs, e⟩, hu⟩ : ∃ u, unpN b = u := ⟨_, rfl⟩
        rw [hu] at a1 a2 a3 h2
        simp only at a1 a2 a3 h2
        subst a1 h2
        obtain ⟨c, rfl⟩ : ∃ c, cs = [c] := by
          rcases cs with _ | ⟨c, _ | ⟨d, r⟩⟩
          · cases a2
          · exact ⟨c, rfl⟩
          · simp at a2
        simp only [List.headD_cons] at a3
        exact ⟨h1, by rw [hu], ⟨c, hu, a3⟩, rfl, by rw [restN_eq hu, List.length_drop]; omega⟩
    · rw [if_pos h2] at he
      exact absurd he h2
  · rw [if_pos h1] at he
    exact absurd he h1
theorem getF_okbad {rd : Int → List UInt8 × Int} {z f i : Nat} {p : Int} {s : List UInt8} {l : List Int} {r : List UInt8 × Int × Int} (hr : gpN (rd p).1 (rd p).2 (partZ z i) = r) (he : r.2.2 = 0) (hb : badNext f r.2.1 (l ++ [p])) : getF rd z (f + 1) i p s l = ([], [], 11) := by
  obtain ⟨h1, h2, ⟨c, hu, hc⟩, rfl, _⟩ := gp_ok hr he
  simp only [nextN_eq hu] at hb
  exact getF_next (b := (rd p).1) (by rw [← h1]) hu hc hb
theorem getF_ok {rd : Int → List UInt8 × Int} {z f i : Nat} {p : Int} {s : List UInt8} {l : List Int} {r : List UInt8 × Int × Int} (hr : gpN (rd p).1 (rd p).2 (partZ z i) = r) (he : r.2.2 = 0) (hb : ¬ badNext f r.2.1 (l ++ [p])) : getF rd z (f + 1) i p s l = getF rd z f (i + 1) r.2.1 (s ++ r.1) (l ++ [p]) := by
  obtain ⟨h1, h2, ⟨c, hu, hc⟩, rfl, _⟩ := gp_ok hr he
  simp only [nextN_eq hu, restN_eq hu] at hb ⊢
  exact getF_go (b := (rd p).1) (by rw [← h1]) hu hc hb
theorem may_bad {x : Int} {left f : Nat} {g : Int → Option Value} {l : List Int} (hg : ∀ k, (g k).isSome = true ↔ k ∈ l) (hl : left = 0 ↔ f = 0) : mayN9 x left g = false ↔ badNext f x l := by
  unfold mayN9 badNext
  by_cases h : left = 0
  · rw [if_pos h]
    simp [hl.1 h]
  · rw [if_neg h]
    have hf : f ≠ 0 := fun e => h (hl.2 e)
    rw [← hg x]
    cases hp : pgOk x <;> cases hx : g x <;> simp [hf]
def GetEnd (r : List UInt8 × List Int × Int) (w : World) (e : Ending) (w' : World) : Prop := ∃ A n c, e = .returned (.tuple #[.string ⟨r.1.toArray⟩, .slice A n c, .int .i64 r.2.2]) ∧ Ints6 w' A n r.2.1 ∧ Below w.heap.size w w'
theorem GetEnd.no {r : List UInt8 × List Int × Int} {w w' : World} {er : Int} (h : r = ([], [], er)) (hb : Below w.heap.size w w') : GetEnd r w (.returned (.tuple #[.string ⟨#[]⟩, .slice none 0 0, .int .i64 er])) w' := by
  subst h
  exact ⟨none, 0, 0, rfl, ⟨rfl, Reads.empty⟩, hb⟩
theorem MapAt.own {w w' : World} {b B s n : Nat} {e : TypeId} {f : Int → Option Value} {v : Value} {xs : List Value} (h : MapAt w b f) (ho : w.ownsRow B e s v n xs) (hg : w.grownBy w' v.ownBlock) : MapAt w' b f :=
  h.keep (hg.block b h.lt (fun hq => by
    rcases ho.2 with ⟨rfl, _⟩ | ⟨g, cap, cur, rfl, _, hc, _⟩
    · cases hq
    · obtain rfl : b = g := by injection hq
      exact h.apart (show Has w b e cur from hc) rfl))
theorem MapAt.not_own {w : World} {b B s n : Nat} {e : TypeId} {f : Int → Option Value} {v : Value} {xs : List Value} (h : MapAt w b f) (ho : w.ownsRow B e s v n xs) : v.ownBlock ≠ some b := fun hq => by
  rcases ho.2 with ⟨rfl, _⟩ | ⟨g, cap, cur, rfl, _, hc, _⟩
  · cases hq
  · obtain rfl : g = b := by injection hq
    exact h.apart (show Has w g e cur from hc) rfl
theorem Ints6.of_own {w : World} {B n : Nat} {v : Value} {l : List Int} (h : w.ownsRow B 3 1 v n (l.map (Value.int .i64))) : ∃ A c, v = .slice A n c ∧ n ≤ c ∧ c ≤ maxLen ∧ Ints6 w A n l := by
  obtain ⟨A, c, rfl, h1, h2⟩ := own_sliceI h
  exact ⟨A, c, rfl, h1, h2, by have := h.1; simpa using this.symm, (Row.of_own h).reads⟩
end Go.Proofs.YtdoabcbembinjaaDoor
end

section
namespace Go.Proofs.YtdoabcbembinjaaDoor
open Go.RowKit
set_option linter.unusedVariables false

section
variable {w : World} {T : Tg} {d D A : Nat} {rs : List Rg}
theorem hGet_no (x p z : Int) (hz : lgB z = false) : Calls Tryd.prog 18 #[.pointer (some ⟨D, 0, none⟩), .int .i64 x, .int .i64 p, .int .i64 z] w (GetEnd (getC (fun p => (rdL rs x p, rdE rs x p)) z p) w) := by
  have HL := Lib.hid (isLong_any z w)
  rw [hz] at HL
  have HR := Lib.hid (GetEnd.no (r := getC (fun p => (rdL rs x p, rdE rs x p)) z p) (w := w) (w' := w) (er := 1) (by unfold getC; rw [need_no hz, if_pos rfl]) (Below.refl _ _))
  go_enter Tryd.func18, Tryd.ntmps18
  go_wp2_with (go_at_call 23; (with_reducible refine HL.out.mono ?_); rintro e w1 ⟨rfl, rfl⟩)
  go_ret3
  exact HR.out
set_option maxRecDepth 100000 in
set_option maxHeartbeats 8000000 in
theorem hGet_yes (x p : Int) (z : Nat) (ht : Tab w) (h : Dk w T d D A rs) (hz : lgB z = true) : Calls Tryd.prog 18 #[.pointer (some ⟨D, 0, none⟩), .int .i64 x, .int .i64 p, .int .i64 z] w (GetEnd (getC (fun p => (rdL rs x p, rdE rs x p)) z p) w) := by
  have HL := Lib.hid (isLong_any (z : Int) w)
  rw [hz] at HL
  obtain ⟨hne, hz1, hz2⟩ := need_pos hz
  rw [Int.toNat_natCast] at hne
  obtain ⟨n, hn⟩ : ∃ n, needN (z : Int) = n := ⟨_, rfl⟩
  rw [hn] at hne
  have HNE := Lib.hid hne
  obtain ⟨R, hR⟩ : ∃ R, getC (fun p => (rdL rs x p, rdE rs x p)) z p = R := ⟨_, rfl⟩
  have hR0 : getF (fun p => (rdL rs x p, rdE rs x p)) z n 0 p [] [] = R := by
    rw [← hR]
    unfold getC
    rw [if_neg ((lg_need z).1 hz), Int.toNat_natCast, hn]
  rw [hR]
  obtain ⟨i0, hi, hz0', hsz, hby⟩ := info_parts int_info
  have HH := Lib.hid h
  have HT := Lib.hid ht
  have HD := Lib.hid (fun wr (hb : Below w.heap.size w wr) p (pz : Nat) (h1 : pz ≤ 119) => hGetPart_any x p pz (ht.below hb) (h.below hb) h1)
  clear h ht hR hn hne
  obtain ⟨mb, hmb⟩ : ∃ mb, w.heap.size = mb := ⟨_, rfl⟩
  have hM0 := MapAt.made w
  rw [hmb] at hM0
  have HMB := Lib.hid hmb
  go_enter Tryd.func18, Tryd.ntmps18
  have hmm := @run_makeMap Tryd.prog
  go_wp2_with (go_at_call 23; (with_reducible refine HL.out.mono ?_); rintro e w1 ⟨rfl, rfl⟩)
  clear hmb
  go_loopw [11, 12, 14, 15] (fun v11 v12 v14 v15 wr => ∃ (f i left : Nat) (p : Int) (s : List UInt8) (l : List Int) (g : Int → Option Value), f + i = n ∧ v11 = .string ⟨s.toArray⟩ ∧ wr.ownsRow w.heap.size 3 1 v12 i (l.map (Value.int .i64)) ∧ v14 = .int .i64 p ∧ v15 = .int .i64 (left : Int) ∧ left = z - 119 * i ∧ getF (fun p => (rdL rs x p, rdE rs x p)) z f i p s l = R ∧ l.length = i ∧ s.length ≤ 119 * i ∧ MapAt wr mb g ∧ (∀ k v, g k = some v → v = .agg #[]) ∧ (∀ k, (g k).isSome = true ↔ k ∈ l) ∧ Below w.heap.size w wr) (fun _ _ _ v15 _ => (intOf v15).toNat)
  case atStart => exact ⟨n, 0, z, p, [], [], noMap, rfl, rfl, World.ownsRow_nil _ _ _ _, rfl, rfl, rfl, hR0, rfl, Nat.zero_le _, hM0, (fun k v h => by cases h), (fun k => by simp [noMap]), (Below.refl _ w).alloc (Nat.le_refl _) _⟩
  case round =>
    obtain ⟨f, i, left, p, s, l, g, hfi, rfl, ho, rfl, rfl, hleft, hF, hli, hsl, hM, hgu, hgl, hb⟩ := hrel
    have HO := Lib.hid ho
    have HM := Lib.hid hM
    have HB := Lib.hid hb
    have HF := Lib.hid hF
    have HFI := Lib.hid hfi
    have HLE := Lib.hid hleft
    have HLI := Lib.hid hli
    have HGU := Lib.hid hgu
    have HGL := Lib.hid hgl
    clear ho hM hb hF hli hgu hgl
    rcases f with _ | f
    · have h0 : left = 0 := by have := HNE.out; omega
      subst h0
      obtain ⟨Av, cv, rfl, hvc, hvm, hI⟩ := Ints6.of_own HO.out
      have HI := Lib.hid hI
      obtain ⟨w3, hw3⟩ : ∃ w3 : World, w3 = wr := ⟨_, rfl⟩
      subst hw3
      clear hI hleft hfi
      go_wp2
      go_ret3
      have hfin := HF.out
      rw [getF_end] at hfin
      rw [← hfin]
      exact ⟨Av, i, cv, rfl, HI.out, HB.out⟩
    · have hlp : 0 < left := by have := HNE.out; omega
      obtain ⟨pz, hpz⟩ : ∃ pz, partZ z i = pz := ⟨_, rfl⟩
      have hpm : pz = min left 119 := by rw [← hpz, hleft]; rfl
      have hp1 : 1 ≤ pz := by omega
      have hp2 : pz ≤ 119 := by omega
      have hp3 : pz ≤ left := by omega
      have hmin : (if (119 : Int) < (left : Int) then (119 : Int) else (left : Int)) = (pz : Int) := by split <;> omega
      have hlI : (0 : Int) < (left : Int) := by omega
      have HPM := Lib.hid hpm
      have HPZ := Lib.hid hpz
      have HGP := Lib.hid (HD.out wr HB.out p pz hp2)
      obtain ⟨r, hr⟩ : ∃ r, gpN (rdL rs x p) (rdE rs x p) pz = r := ⟨_, rfl⟩
      rw [hr] at HGP
      have HR := Lib.hid hr
      clear hleft hfi hpm hpz hr
      obtain ⟨s1, nx, er⟩ := r
      by_cases he : er = 0
      · subst he
        obtain ⟨_, _, _, hreq, hsl1⟩ := gp_ok HR.out rfl
        have hs1l : s1.length = pz := by
          have := congrArg Prod.fst hreq
          simp only at this
          rw [this]
          exact hsl1
        obtain ⟨left2, hl2⟩ : ∃ left2, left - pz = left2 := ⟨_, rfl⟩
        have hsub : (left : Int) - (pz : Int) = (left2 : Int) := by omega
        have hl2b : left2 ≤ 400 := by have := HLE.out; omega
        have HL2 : Hid (left2 = z - 119 * (i + 1)) := Lib.hid (by have h1 := HLE.out; have h2 := HPM.out; omega)
        have HL20 : Hid (left2 = 0 ↔ f = 0) := Lib.hid (by have h1 := HL2.out; have h2 := HNE.out; have h3 := HFI.out; omega)
        obtain ⟨sb, hsb⟩ : ∃ sb : ByteArray, (⟨s.toArray⟩ : ByteArray) = sb := ⟨_, rfl⟩
        obtain ⟨s1b, hs1b⟩ : ∃ sb : ByteArray, (⟨s1.toArray⟩ : ByteArray) = sb := ⟨_, rfl⟩
        have hi4 : i ≤ 3 := by have h1 := HNE.out; have h3 := HFI.out; omega
        have hz1 : s1b.size = pz := by rw [← hs1b, size_list, hs1l]
        have hz0 : sb.size ≤ 119 * i := by rw [← hsb, size_list]; exact hsl
        have HSA : Hid (sb ++ s1b = ⟨(s ++ s1).toArray⟩) := Lib.hid (by rw [← hsb, ← hs1b, str_app])
        have HSL : Hid ((s ++ s1).length ≤ 119 * (i + 1)) := Lib.hid (by rw [List.length_append, hs1l]; omega)
        have hsum : sb.size + s1b.size ≤ 1000 := by omega
        unfold GpEnd at HGP
        simp only at HGP
        rw [hs1b] at HGP
        rw [hsb]
        have HGI := Lib.hid (show ∀ k, (putM g p (.agg #[]) k).isSome = true ↔ k ∈ l ++ [p] from fun k => by
          unfold putM
          rw [List.mem_append, List.mem_singleton, ← HGL.out k]
          by_cases e : k = p
          · simp [e]
          · rw [if_neg e]
            simp [e])
        have HGV := Lib.hid (show ∀ k v, putM g p (.agg #[]) k = some v → v = .agg #[] from fun k v h => by
          unfold putM at h
          by_cases e : k = p
          · rw [if_pos e] at h
            injection h with h
            exact h.symm
          · rw [if_neg e] at h
            exact HGU.out k v h)
        have HMAP : Hid ((l ++ [p]).map (Value.int .i64) = l.map (Value.int .i64) ++ [.int .i64 p]) := Lib.hid (by simp)
        clear hsb hs1b hreq hsl1 hl2 hs1l hsl
        by_cases hbad : badNext f nx (l ++ [p])
        · have HE : Hid (R = ([], [], 11)) := Lib.hid (by
            rw [← HF.out]
            exact getF_okbad (rd := fun p => (rdL rs x p, rdE rs x p)) (r := (s1, nx, (0 : Int))) (by rw [HPZ.out]; exact HR.out) rfl hbad)
          have HMY := Lib.hid (fun w1 hm => by have := hMay_any nx left2 mb (putM g p (.agg #[])) w1 hm HGV.out; rw [(may_bad HGI.out HL20.out).2 hbad] at this; exact this)
          clear hbad
          go_wp2_with (first
            | (go_at_call 40; go_loud ((try rw [hmin]); (with_reducible refine HGP.out.mono ?_); rintro e w1 ⟨rfl, b1⟩; have B1 := Lib.hid (below_step HB.out b1); have O1 := Lib.hid (ceOwnBelow HO.out b1); have M1 := Lib.hid (HM.out.keep (b1.block mb HM.out.lt)); clear b1))
            | (at_builtin; go_loud (refine wpList_append_own _ rfl _ _ 22 rfl w.heap.size 3 i0 (.int .i64 0) 1 8 Tryd.underlying22 hi hz0' hsz hby rfl (by decide) _ i _ rfl (O1.out.alloc _) ⟨w1.heap.size, 0, none⟩ 1 1 [.int .i64 p] rfl rfl (lies_one9 _ _ _) (by simp [Value.oneCell']) (by unfold maxLen; omega) (by omega) (Nat.le_trans B1.out.size (by simp)) ?_; intro v4 w4 h7 h8 _; have hM4 : MapAt w4 mb g := (M1.out.keep (((Below.refl w1.heap.size w1).alloc (Nat.le_refl _) (.cells #[.int .i64 p] 3)).block mb M1.out.lt)).own (O1.out.alloc (.cells #[.int .i64 p] 3)) h8; have hB4 : Below w.heap.size w w4 := below_ownR (below_alloc' B1.out (.cells #[.int .i64 p] 3)) h8 (O1.out.alloc (.cells #[.int .i64 p] 3)) (Nat.le_trans B1.out.size (by simp)); obtain ⟨w5, hput, hM5, hg5, hsz5⟩ := run_put (P := Tryd.prog) (w := w4) Tryd.underlying92 Tryd.underlying3 hM4 p (.agg #[]); have M5 := Lib.hid hM5; have O5 := Lib.hid (h7.kept hg5 (.inr (hM4.not_own h7))); have B5 := Lib.hid (hB4.grown hg5 hB4.size (fun j hj => by injection hj with hj; subst hj; exact Nat.le_of_eq HMB.out)); clear h7 h8 hM4 hM5 hg5 hsz5 hB4))
            | (go_at_call 41; go_loud ((try rw [hsub]); (with_reducible refine (HMY.out _ M5.out).mono ?_); rintro e w6 ⟨rfl, b6⟩; have B6 := Lib.hid (below_step B5.out b6); have O6 := Lib.hid (ceOwnBelow O5.out b6); have M6 := Lib.hid (M5.out.keep (b6.block mb M5.out.lt)); clear b6)))
          go_ret3
          exact GetEnd.no HE.out B6.out
        · have HE : Hid (getF (fun p => (rdL rs x p, rdE rs x p)) z f (i + 1) nx (s ++ s1) (l ++ [p]) = R) := Lib.hid (by
            rw [← HF.out]
            exact (getF_ok (rd := fun p => (rdL rs x p, rdE rs x p)) (r := (s1, nx, (0 : Int))) (by rw [HPZ.out]; exact HR.out) rfl hbad).symm)
          have hmt : mayN9 nx left2 (putM g p (.agg #[])) = true := by
            cases hq : mayN9 nx left2 (putM g p (.agg #[]))
            · exact absurd ((may_bad HGI.out HL20.out).1 hq) hbad
            · rfl
          have HMY := Lib.hid (fun w1 hm => by have := hMay_any nx left2 mb (putM g p (.agg #[])) w1 hm HGV.out; rw [hmt] at this; exact this)
          clear hbad hmt
          go_wp2_with (first
            | (go_at_call 40; go_loud ((try rw [hmin]); (with_reducible refine HGP.out.mono ?_); rintro e w1 ⟨rfl, b1⟩; have B1 := Lib.hid (below_step HB.out b1); have O1 := Lib.hid (ceOwnBelow HO.out b1); have M1 := Lib.hid (HM.out.keep (b1.block mb HM.out.lt)); clear b1))
            | (at_builtin; go_loud (refine wpList_append_own _ rfl _ _ 22 rfl w.heap.size 3 i0 (.int .i64 0) 1 8 Tryd.underlying22 hi hz0' hsz hby rfl (by decide) _ i _ rfl (O1.out.alloc _) ⟨w1.heap.size, 0, none⟩ 1 1 [.int .i64 p] rfl rfl (lies_one9 _ _ _) (by simp [Value.oneCell']) (by unfold maxLen; omega) (by omega) (Nat.le_trans B1.out.size (by simp)) ?_; intro v4 w4 h7 h8 _; have hM4 : MapAt w4 mb g := (M1.out.keep (((Below.refl w1.heap.size w1).alloc (Nat.le_refl _) (.cells #[.int .i64 p] 3)).block mb M1.out.lt)).own (O1.out.alloc (.cells #[.int .i64 p] 3)) h8; have hB4 : Below w.heap.size w w4 := below_ownR (below_alloc' B1.out (.cells #[.int .i64 p] 3)) h8 (O1.out.alloc (.cells #[.int .i64 p] 3)) (Nat.le_trans B1.out.size (by simp)); obtain ⟨w5, hput, hM5, hg5, hsz5⟩ := run_put (P := Tryd.prog) (w := w4) Tryd.underlying92 Tryd.underlying3 hM4 p (.agg #[]); have M5 := Lib.hid hM5; have O5 := Lib.hid (h7.kept hg5 (.inr (hM4.not_own h7))); have B5 := Lib.hid (hB4.grown hg5 hB4.size (fun j hj => by injection hj with hj; subst hj; exact Nat.le_of_eq HMB.out)); clear h7 h8 hM4 hM5 hg5 hsz5 hB4))
            | (go_at_call 41; go_loud ((try rw [hsub]); (with_reducible refine (HMY.out _ M5.out).mono ?_); rintro e w6 ⟨rfl, b6⟩; have B6 := Lib.hid (below_step B5.out b6); have O6 := Lib.hid (ceOwnBelow O5.out b6); have M6 := Lib.hid (M5.out.keep (b6.block mb M5.out.lt)); clear b6)))
          go_roundw
          case rel => exact ⟨f, i + 1, left2, nx, s ++ s1, l ++ [p], putM g p (.agg #[]), by have := HFI.out; omega, by rw [HSA.out], by rw [HMAP.out]; exact O6.out, rfl, rfl, HL2.out, HE.out, by rw [List.length_append, HLI.out]; rfl, HSL.out, M6.out, HGV.out, HGI.out, B6.out⟩
          case measure => simp [intOf]; omega
      · have hne : (er != 0) = true := by simpa using he
        have HE : Hid (R = ([], [], er)) := Lib.hid (by
          rw [← HF.out]
          exact getF_bad (rd := fun p => (rdL rs x p, rdE rs x p)) (r := (s1, nx, er)) (by rw [HPZ.out]; exact HR.out) he)
        clear he
        go_wp2_with (go_at_call 40; go_loud ((try rw [hmin]); (with_reducible refine HGP.out.mono ?_); rintro e w1 ⟨rfl, b1⟩; have B1 := Lib.hid (below_step HB.out b1); clear b1))
        go_ret3
        exact GetEnd.no HE.out B1.out
theorem hGet_any (x p z : Int) (ht : Tab w) (h : Dk w T d D A rs) : Calls Tryd.prog 18 #[.pointer (some ⟨D, 0, none⟩), .int .i64 x, .int .i64 p, .int .i64 z] w (GetEnd (getC (fun p => (rdL rs x p, rdE rs x p)) z p) w) := by
  cases hz : lgB z
  · exact hGet_no x p z hz
  · obtain ⟨n, rfl⟩ : ∃ n : Nat, z = (n : Int) := ⟨z.toNat, by have := (need_pos hz).2; omega⟩
    exact hGet_yes x p n ht h hz
end
end Go.Proofs.YtdoabcbembinjaaDoor
end

section
namespace Go.Proofs.YtdoabcbembinjaaDoor
open Go.RowKit
set_option linter.unusedVariables false

def lz (n : Nat) (ws : List Wr) : Rg := ⟨n, fun _ => none, ws, -1, false⟩
def pgW (ws : List Wr) (p : Int) : List UInt8 := match lastFrom 0 ws p with
  | some i => (ws.getD i (0, [])).2
  | none => zeros
theorem pgW_snoc (ws : List Wr) (q : Int) (b : List UInt8) (p : Int) : pgW (ws ++ [(q, b)]) p = if p = q then b else pgW ws p := by
  unfold pgW
  rw [lastFrom_snoc]
  by_cases h : p = q
  · rw [if_pos h, if_pos h]
    simp
  · rw [if_neg h, if_neg h]
    cases hl : lastFrom 0 ws p with
    | none => rfl
    | some i =>
      obtain ⟨_, x, hx, _⟩ := lastFrom_some p ws 0 i hl
      have hi := (List.getElem?_eq_some_iff.1 hx).1
      simp only
      rw [List.getD_eq_getElem?_getD, List.getD_eq_getElem?_getD, List.getElem?_append_left (by omega)]
theorem pgW_app (p : Int) : ∀ (es ws : List Wr), (∀ x ∈ es, x.1 ≠ p) → pgW (ws ++ es) p = pgW ws p
  | [], ws, _ => by rw [List.append_nil]
  | (q, b) :: es, ws, h => by
    have := pgW_app p es (ws ++ [(q, b)]) (fun y hy => h y (by simp [hy]))
    rw [List.append_assoc] at this
    rw [show ws ++ (q, b) :: es = ws ++ ([(q, b)] ++ es) from rfl, this, pgW_snoc, if_neg (fun e => h (q, b) (by simp) e.symm)]
theorem regN_at {rs : List Rg} {k : Nat} {r : Rg} (h : rs[k]? = some r) : regN rs (k : Int) = some r := by
  unfold regN
  rw [if_neg (by omega), Int.toNat_natCast, h]
theorem wrA_at {rs : List Rg} {k n : Nat} {ws : List Wr} (h : rs[k]? = some (lz n ws)) {p : Int} (h0 : 0 ≤ p) (h1 : p < n) {b : List UInt8} (hb : b.length = 128) : wrA rs (k : Int) p b = (rs.set k (lz n (ws ++ [(p, b)])), 0) := by
  rw [wrA_yes (regN_at h) rfl h0 h1 hb, if_neg (by simp [lz]), Int.toNat_natCast]
  rfl
theorem rdE_at {rs : List Rg} {k n : Nat} {ws : List Wr} (h : rs[k]? = some (lz n ws)) {p : Int} (h0 : 0 ≤ p) (h1 : p < n) : rdE rs (k : Int) p = 0 := by
  unfold rdE
  rw [regN_at h]
  simp [lz, hasB, h0, h1]
theorem rdL_at {rs : List Rg} {k n : Nat} {ws : List Wr} (h : rs[k]? = some (lz n ws)) {p : Int} (h0 : 0 ≤ p) (h1 : p < n) : rdL rs (k : Int) p = pgW ws p := by
  unfold rdL
  rw [regN_at h]
  simp only [lz, hasB, h0, h1, decide_true, Bool.and_self, if_true, Bool.false_eq_true, if_false]
  unfold rdP pgW
  cases lastFrom 0 ws p <;> rfl
def wsN (s : List UInt8) (l : List Int) (k : Nat) : List Wr := (List.range k).map fun j => (l.getD j 0, pageN s l j)
theorem wsN_snoc (s : List UInt8) (l : List Int) (k : Nat) : wsN s l (k + 1) = wsN s l k ++ [(l.getD k 0, pageN s l k)] := by
  unfold wsN
  rw [List.range_succ, List.map_append]
  rfl
theorem getD_some {l : List Int} {j : Nat} (hj : j < l.length) : l[j]? = some (l.getD j 0) := by rw [List.getD_eq_getElem?_getD, List.getElem?_eq_getElem hj]; rfl
theorem okP_ne' {l : List Int} (h : okP l) {j k : Nat} (hj : j < l.length) (hk : k < l.length) (hjk : j ≠ k) : l.getD j 0 ≠ l.getD k 0 := by
  rcases Nat.lt_or_gt_of_ne hjk with h1 | h1
  · exact okP_ne h (getD_some hj) (getD_some hk) h1
  · exact (okP_ne h (getD_some hk) (getD_some hj) h1).symm
theorem pgW_ws {s : List UInt8} {l : List Int} (h : okP l) : ∀ (k j : Nat), k ≤ l.length → j < k → pgW (wsN s l k) (l.getD j 0) = pageN s l j
  | 0, j, _, hj => absurd hj (by omega)
  | k + 1, j, hk, hj => by
    rw [wsN_snoc, pgW_snoc]
    by_cases e : j = k
    · subst e
      rw [if_pos rfl]
    · rw [if_neg (okP_ne' h (by omega) (by omega) e)]
      exact pgW_ws h k j (by omega) (by omega)
theorem ws_not {s : List UInt8} {l : List Int} {p : Int} (h : p ∉ l) : ∀ (k : Nat), k ≤ l.length → pgW (wsN s l k) p = zeros
  | 0, _ => rfl
  | k + 1, hk => by
    rw [wsN_snoc, pgW_snoc, if_neg (fun e => h (by rw [e]; exact List.mem_of_getElem? (getD_some (by omega))))]
    exact ws_not h k (by omega)
set_option maxRecDepth 100000 in
theorem zeros_bad : ¬ isTag zeros := by decide +kernel
theorem unp_bad {b : List UInt8} (hl : b.length = 128) (h : ¬ isTag b) : (unpN b).2.2 = 12 := by
  unfold unpN
  rw [if_neg (by omega), if_pos h]
theorem okP_mem {l : List Int} (h : okP l) {p : Int} (hp : p ∈ l) : 2 ≤ p ∧ p ≤ 999 := by
  obtain ⟨k, hk⟩ := List.mem_iff_getElem?.1 hp
  exact okP_pg h hk

structure PgT (w : World) (T : Tg) (A : Option Addr) (n c : Nat) (q : List Hd) : Prop where
  len : n = q.length
  hdr : SlT w T A n c (q.map Hd.v)
  each : ∀ x ∈ q, SlT w T x.a x.n x.c (x.l.map byteV) ∧ x.n = 128 ∧ x.l.length = 128
theorem PgT.below {w w' : World} {T : Tg} {A : Option Addr} {n c : Nat} {q : List Hd} (h : PgT w T A n c q) (hb : Below w.heap.size w w') : PgT w' T A n c q := ⟨h.len, h.hdr.below hb, fun x hx => ⟨(h.each x hx).1.below hb, (h.each x hx).2⟩⟩
theorem PgT.tn {w w' : World} {T T' : Tg} {A : Option Addr} {n c d : Nat} {q : List Hd} (h : PgT w T A n c q) (k : Tn T d w T' w') : PgT w' T' A n c q := ⟨h.len, h.hdr.tn k, fun x hx => ⟨(h.each x hx).1.tn k, (h.each x hx).2⟩⟩
theorem PgT.at {w : World} {T : Tg} {A : Option Addr} {n c : Nat} {q : List Hd} (h : PgT w T A n c q) {k : Nat} (hk : k < q.length) :
    ∃ g off, A = some ⟨g, off, none⟩ ∧ w.cell? ⟨g, off + k, none⟩ = some (.slice (q[k]).a (q[k]).n (q[k]).c) := by
  obtain ⟨g, off, hA, hc⟩ := h.hdr.reads (by simp; omega)
  exact ⟨g, off, hA, hc k _ (by simp [List.getElem?_eq_getElem hk, Hd.v])⟩
theorem PgT.of_put {s : List UInt8} {l : List Int} {w w' : World} {T : Tg} {A : Option Addr} {n c : Nat} {q : List Hd} (hC : CellsA w' A n c q) (hq : lq q = (putN s l).1) (hr : ∀ x ∈ q, RowH w.heap.size w' x) (hA : Row w' 31 w.heap.size A (q.map Hd.v)) (hT : ∀ g, w.heap.size ≤ g → T g = none) : PgT w' T A n c q := by
  refine ⟨hC.len, ⟨hC.reads, fun hx a ha => by
    obtain ⟨g, off, cs, e, hg, _⟩ := hA hx
    rw [ha] at e
    injection e with e
    subst e
    exact hT g hg, hC.room, hC.most, hC.nil⟩, fun x hx => ?_⟩
  have h := hr x hx
  have hl : x.l.length = 128 := by
    have hm : x.l ∈ lq q := List.mem_map.2 ⟨x, hx, rfl⟩
    rw [hq] at hm
    unfold putN at hm
    split at hm
    · obtain ⟨j, _, e⟩ := List.mem_map.1 hm
      rw [← e]
      exact pageN_len s l j
    · cases hm
  refine ⟨⟨h.row.reads, fun hn a ha => ?_, h.room, h.most, fun ha => absurd ha (h.row.some_ (by rw [List.length_map]; omega))⟩, h.len.trans hl, hl⟩
  obtain ⟨g, off, cs, e, hg, _⟩ := h.row (by rw [List.length_map]; omega)
  rw [ha] at e
  injection e with e
  subst e
  exact hT g hg
section
variable {w0 w : World} {T : Tg} {d D A N : Nat} {rs : List Rg}
theorem Write_p {k n c m : Nat} {ws : List Wr} {p : Int} {Ab : Option Addr} {b : List UInt8} (h : Dz w0 w T d D A N rs) (hN : N ≤ 1000) (hk : rs[k]? = some (lz n ws)) (h0 : 0 ≤ p) (h1 : p < n) (hm : m = 128) (y : SlT w T Ab m c (b.map byteV)) (hb : b.length = 128) :
    Calls Tryd.prog 16 #[.pointer (some ⟨D, 0, none⟩), .int .i64 (k : Int), .int .i64 p, .slice Ab m c] w (DzEnd (.int .i64 0) w0 w T d D A (N + 1) (rs.set k (lz n (ws ++ [(p, b)])))) := by
  subst hm
  have hw := wrA_at hk h0 h1 hb
  refine (Write_any (k : Int) p b Ab 128 c h.dk h.lo.lt hb.symm y.reads y.room (fun a ha j hj => by rw [y.un (by rw [List.length_map]; omega) a ha] at hj; cases hj) (fun r hr => Nat.le_trans (h.few r hr) hN)).mono ?_
  rintro e w' ⟨he, T', hd, ht⟩
  rw [hw] at he hd
  refine ⟨he, T', h.next ht hd ?_, ht⟩
  have := few_wrA h.few (k : Int) p b
  rw [hw] at this
  exact this
end
/-! The value of the laws. -/
def val9 (n : Nat) : List UInt8 := (List.range n).map fun i => UInt8.ofNat (7 * i)
theorem val9_len (n : Nat) : (val9 n).length = n := by simp [val9]
def vrow (n k : Nat) : List UInt8 := val9 k ++ List.replicate (n - k) 0
theorem vrow_zero (n : Nat) : ((vrow n 0).map byteV).toArray = madeCells #[.int .u8 0] n := by
  apply Array.ext'
  rw [toList_madeCells_one]
  simp [vrow, val9, byteV]
theorem val9_snoc (k : Nat) : val9 (k + 1) = val9 k ++ [UInt8.ofNat (7 * k)] := by
  unfold val9
  rw [List.range_succ, List.map_append]
  rfl
theorem vrow_step {n k : Nat} (hk : k < n) : ((vrow n k).map byteV).toArray.setIfInBounds k (.int .u8 ((7 * k : Nat) % 256 : Int)) = ((vrow n (k + 1)).map byteV).toArray := by
  have hv : (.int .u8 ((7 * k : Nat) % 256 : Int) : Value) = byteV (UInt8.ofNat (7 * k)) := by
    unfold byteV
    simp
  rw [hv, List.setIfInBounds_toArray, ← List.map_set]
  congr 2
  unfold vrow
  rw [val9_snoc, List.set_append_right _ _ (by rw [val9_len]; exact Nat.le_refl _), val9_len, Nat.sub_self, List.append_assoc]
  congr 1
  obtain ⟨m, hm⟩ : ∃ m, n - k = m + 1 := ⟨n - k - 1, by omega⟩
  rw [hm, show n - (k + 1) = m by omega, List.replicate_succ]
  rfl
set_option maxRecDepth 100000 in
theorem value_any (n : Nat) (hn : n ≤ 1000) (w : World) : Calls Tryd.prog 22 #[.int .i64 n] w fun e w' => e = .returned (.string ⟨(val9 n).toArray⟩) ∧ Below w.heap.size w w' := by
  have hmk := make_bytes6 n (by omega) w
  obtain ⟨W, hW⟩ : ∃ W, w.alloc (.cells (madeCells #[.int .u8 0] n) 5) = W := ⟨_, rfl⟩
  rw [hW] at hmk
  have HB : Hid (Below w.heap.size w W) := Lib.hid (hW ▸ (Below.refl _ w).alloc (Nat.le_refl _) _)
  have H0 : Hid (Has W w.heap.size 5 ((vrow n 0).map byteV).toArray) := Lib.hid (by rw [vrow_zero]; exact hW ▸ Has.made w 5 _)
  have HL : Hid (∀ k, k ≤ n → (vrow n k).length = n) := Lib.hid (fun k hk => by unfold vrow; rw [List.length_append, val9_len, List.length_replicate]; omega)
  clear hW
  go_enter Tryd.func22, Tryd.ntmps22
  go_wp2
  go_loopw [4] (fun i wr => ∃ k : Nat, k ≤ n ∧ i = .int .i64 k ∧ Has wr w.heap.size 5 ((vrow n k).map byteV).toArray ∧ Below w.heap.size w wr) (fun i _ => n - (intOf i).toNat)
  case atStart => exact ⟨0, Nat.zero_le _, rfl, H0.out, HB.out⟩
  case round =>
    obtain ⟨k, hk, rfl, hH, hB⟩ := hrel
    have HH := Lib.hid hH
    have HB := Lib.hid hB
    have hfz := hH.free k
    clear hB
    by_cases hlt : k < n
    · obtain ⟨u, hu⟩ : ∃ u, wr.cell? ⟨w.heap.size, k, none⟩ = some u := by
        rw [hH.cell]
        exact ⟨_, Array.getElem?_eq_getElem (by simp [HL.out k (by omega)]; omega)⟩
      have hw7 : (7 * (k : Int)) % 256 = ((7 * k : Nat) % 256 : Int) := by omega
      have HN := Lib.hid (hH.store k (.int .u8 ((7 * k : Nat) % 256 : Int)))
      have HBN := Lib.hid (HB.out.setCell (p := ⟨w.heap.size, k, none⟩) (Nat.le_refl _) (.int .u8 ((7 * k : Nat) % 256 : Int)))
      have hkI : (k : Int) < (n : Int) := by omega
      have hk0 : (0 : Int) ≤ (k : Int) := by omega
      clear hH
      go_wp2
      go_roundw
      case rel => exact ⟨k + 1, by omega, by go_num, by rw [← vrow_step hlt]; exact HN.out, HBN.out⟩
      case measure => simp [intOf]; omega
    · obtain rfl : k = n := by omega
      have hst := run_string_of (P := Tryd.prog) wr 31 9 5 Tryd.underlying31 Tryd.underlying5 Tryd.underlying9 (A := some ⟨w.heap.size, 0, none⟩) (n := k) (cap := k) (l := val9 k) (val9_len k).symm (fun _ => ⟨w.heap.size, 0, rfl, fun j u hj => by
        rw [HH.out.cell, Nat.zero_add]
        unfold vrow
        rw [Nat.sub_self, List.replicate_zero, List.append_nil]
        simpa using hj⟩)
      clear hH
      obtain ⟨w3, hw3⟩ : ∃ w3 : World, w3 = wr := ⟨_, rfl⟩
      subst hw3
      go_wp2
      go_ret
      exact ⟨rfl, HB.out⟩
end Go.Proofs.YtdoabcbembinjaaDoor
end

section
namespace Go.Proofs.YtdoabcbembinjaaDoor
open Go.RowKit
set_option linter.unusedVariables false

theorem str_byte (r : Nat) (hr : r ≤ 255) (W : World) : (convert 31 9 (.slice (some ⟨W.heap.size, 0, none⟩) 1 1)).run Tryd.prog (W.alloc (.cells #[.int .u8 (r : Int)] 5)) = .ok (.string ⟨[UInt8.ofNat r].toArray⟩) (W.alloc (.cells #[.int .u8 (r : Int)] 5)) := by
  have h := row_made W [UInt8.ofNat r]
  have e : (([UInt8.ofNat r] : List UInt8).map byteV).toArray = #[.int .u8 (r : Int)] := by simp [byteV]; omega
  rw [e] at h
  exact str_row (n := 1) (c := 1) rfl h
theorem str_byte2 (x y : Nat) (hx : x ≤ 255) (hy : y ≤ 255) (W : World) : (convert 31 9 (.slice (some ⟨W.heap.size, 0, none⟩) 2 2)).run Tryd.prog (W.alloc (.cells #[.int .u8 (x : Int), .int .u8 (y : Int)] 5)) = .ok (.string ⟨[UInt8.ofNat x, UInt8.ofNat y].toArray⟩) (W.alloc (.cells #[.int .u8 (x : Int), .int .u8 (y : Int)] 5)) := by
  have h := row_made W [UInt8.ofNat x, UInt8.ofNat y]
  have e : (([UInt8.ofNat x, UInt8.ofNat y] : List UInt8).map byteV).toArray = #[.int .u8 (x : Int), .int .u8 (y : Int)] := by simp [byteV]; omega
  rw [e] at h
  exact str_row (n := 2) (c := 2) rfl h
theorem made_zero (n : Nat) : madeCells #[.int .u8 0] n = ((List.replicate n (0 : UInt8)).map byteV).toArray := by
  apply Array.ext_getElem?
  intro i
  by_cases h : i < n
  · have h1 : (madeCells #[.int .u8 0] n)[i]? = some (.int .u8 0) := by
      have : i % 1 = 0 := Nat.mod_one i
      simp [madeCells, h, this]
    have h2 : ((List.replicate n (0 : UInt8)).map byteV).toArray[i]? = some (.int .u8 0) := by simp [h, byteV]
    rw [h1, h2]
  · rw [Array.getElem?_eq_none (by rw [size_madeCells]; omega), Array.getElem?_eq_none (by simp; omega)]
theorem str_zero (n : Nat) (W : World) : (convert 31 9 (.slice (some ⟨W.heap.size, 0, none⟩) n n)).run Tryd.prog (W.alloc (.cells (madeCells #[.int .u8 0] n) 5)) = .ok (.string ⟨(List.replicate n (0 : UInt8)).toArray⟩) (W.alloc (.cells (madeCells #[.int .u8 0] n) 5)) := by
  rw [made_zero]
  exact str_row (n := n) (c := n) (by simp) (row_made W (List.replicate n 0))

def RPackEnd (s : List UInt8) (er : Int) (w : World) (e : Ending) (w' : World) : Prop := e = .returned (.tuple #[.string ⟨s.toArray⟩, .int .i64 er]) ∧ Below w.heap.size w w'
theorem r7Pack_no (kind : UInt8) (A : Option Addr) (n c : Nat) (l : List (List UInt8)) (w : World) (h : TxtA w A n l) (hs : cSz l ≤ 1001000) (hn : ¬ cFits kind l) :
    Calls Tryd.prog 29 #[.int .u8 (kind.toNat : Int), .slice A n c] w (RPackEnd [] 1 w) := by
  have HS := Lib.hid (r7Size_any A n c l w h hs)
  by_cases hk : kind = 0
  · subst hk
    go_enter Tryd.func29, Tryd.ntmps29
    go_wp2
    go_ret2
    exact ⟨rfl, Below.refl _ _⟩
  · have hk0 : ((kind.toNat : Int) == 0) = false := beq_false_of_ne (fun e => hk (UInt8.toNat_inj.1 (by simpa using e)))
    have hz : 122 < cSz l := by
      unfold cFits at hn
      have : ¬ cSz l ≤ 122 := fun e => hn ⟨hk, e⟩
      omega
    clear hn h hs
    have e2 : decide (122 < (cSz l : Int)) = true := by simp; omega
    go_enter Tryd.func29, Tryd.ntmps29
    go_wp2_with (go_at_call 52; refine HS.out.mono ?_; rintro e w1 ⟨rfl, rfl⟩)
    go_ret2
    exact ⟨rfl, Below.refl _ _⟩

set_option maxRecDepth 100000 in
set_option maxHeartbeats 4000000 in
theorem r7Pack_yes (kind : UInt8) (A : Option Addr) (n c : Nat) (l : List (List UInt8)) (w : World) (h : TxtA w A n l) (hy : cFits kind l) :
    Calls Tryd.prog 29 #[.int .u8 (kind.toNat : Int), .slice A n c] w (RPackEnd (cPage kind l) 0 w) := by
  have HS := Lib.hid (r7Size_any A n c l w h (by have := hy.2; omega))
  have HA := Lib.hid h
  have HL := Lib.hid h.len
  have hk0 : ((kind.toNat : Int) == 0) = false := beq_false_of_ne (fun e => hy.1 (UInt8.toNat_inj.1 (by simpa using e)))
  have hz := hy.2
  have hn : n ≤ 122 := by have := cSz_len l; have := h.len; omega
  have hkl := kind.toNat_lt
  have e2 : decide (122 < (cSz l : Int)) = false := by simp; omega
  clear h hy
  go_enter Tryd.func29, Tryd.ntmps29
  go_wp2_with (go_at_call 52; refine HS.out.mono ?_; rintro e w1 ⟨rfl, rfl⟩)
  go_loopw [6, 7, 8] (fun s b i wr => ∃ k : Nat, k ≤ n ∧ i = .int .i64 k ∧ s = .string ⟨(cSlots 128 (l.take k)).toArray⟩ ∧ b = .string ⟨(cBack (l.take k)).toArray⟩ ∧ Below w.heap.size w wr) (fun _ _ i _ => n - (intOf i).toNat)
  case atStart => exact ⟨0, Nat.zero_le _, rfl, rfl, rfl, Below.refl _ _⟩
  case round =>
    obtain ⟨k, hk, rfl, rfl, rfl, hB⟩ := hrel
    have HB := Lib.hid hB
    by_cases hlt : k < n
    · have hkl2 : k < l.length := by rw [← HL.out]; exact hlt
      obtain ⟨g, off, rfl, hc⟩ := (HA.out.below hB).at hkl2
      have hm := cSz_more (List.getElem?_eq_getElem hkl2)
      have hme := cSz_take l (k + 1)
      have hbl := cBack_len (l.take k)
      have hta := List.take_succ_eq_append_getElem hkl2
      generalize l[k] = y at *
      have n1 : cSlots 128 (l.take (k + 1)) = cSlots 128 (l.take k) ++ [UInt8.ofNat (128 - (cBack (l.take k)).length - y.length)] := by rw [hta, cSlots_snoc]
      have n2 : cBack (l.take (k + 1)) = y ++ cBack (l.take k) := by rw [hta, cBack_snoc]
      have N1 := Lib.hid n1
      have N2 := Lib.hid n2
      have hs0 : (cSlots 128 (l.take k)).length ≤ 122 := by rw [cSlots_len, List.length_take]; omega
      have hb0 : (cBack (l.take k)).length + y.length ≤ 122 := by omega
      clear hB n1 n2 hta hbl hme hm hkl2
      obtain ⟨S, hS⟩ : ∃ S, cSlots 128 (l.take k) = S := ⟨_, rfl⟩
      obtain ⟨B, hBk⟩ : ∃ B, cBack (l.take k) = B := ⟨_, rfl⟩
      rw [hS] at hs0 N1 ⊢
      rw [hBk] at hb0 N1 N2 ⊢
      clear hS hBk
      have hyb : ((⟨y.toArray⟩ : ByteArray) ++ ⟨B.toArray⟩) = ⟨(y ++ B).toArray⟩ := str_app y ⟨B.toArray⟩
      have hzl : ((⟨(y ++ B).toArray⟩ : ByteArray)).size = y.length + B.length := by rw [size_list, List.length_append]
      obtain ⟨r, hr⟩ : ∃ r, 128 - B.length - y.length = r := ⟨_, rfl⟩
      have hpr : (128 : Int) - ((y.length : Int) + (B.length : Int)) = (r : Int) := by omega
      have hr1 : r ≤ 255 := by omega
      have hsb := str_byte r hr1
      have hss : ((⟨S.toArray⟩ : ByteArray) ++ ⟨[UInt8.ofNat r].toArray⟩) = ⟨(S ++ [UInt8.ofNat r]).toArray⟩ := str_app S ⟨[UInt8.ofNat r].toArray⟩
      rw [hr] at N1
      clear hr
      have hyl : y.length ≤ 122 := by omega
      have hBl : B.length ≤ 122 := by omega
      go_wp2
      go_roundw
      case rel => exact ⟨k + 1, by omega, by go_num, str_eq2 (by rw [N1.out]), str_eq2 (by rw [N2.out]), HB.out.alloc HB.out.size _⟩
      case measure => simp [intOf]; omega
    · obtain rfl : k = n := by omega
      have htk : l.take k = l := List.take_of_length_le (by rw [← HL.out]; exact Nat.le_refl _)
      rw [htk]
      have HBD : Hid (cPage kind l = tagB ([kind, UInt8.ofNat k] ++ cSlots 128 l ++ (List.replicate (122 - cSz l) 0 ++ cBack l))) := Lib.hid (by
        unfold cPage cBody
        rw [← HL.out]
        simp)
      have hbl := cBack_len l
      have hsl := cSlots_len l 128
      have HKL : Hid (l.length = k) := Lib.hid HL.out.symm
      obtain ⟨S, hS⟩ : ∃ S, cSlots 128 l = S := ⟨_, rfl⟩
      obtain ⟨B, hBk⟩ : ∃ B, cBack l = B := ⟨_, rfl⟩
      rw [hS, hBk] at HBD
      rw [hS] at hsl ⊢
      rw [hBk] at hbl ⊢
      rw [← HL.out] at hsl hbl
      clear hS hBk htk
      obtain ⟨wo, hwo⟩ : ∃ wo : World, wo = wr := ⟨_, rfl⟩
      subst hwo
      have hs2 := fun W => str_byte2 kind.toNat k (by omega) (by omega) W
      rw [UInt8.ofNat_toNat] at hs2
      have hss : ((⟨[kind, UInt8.ofNat k].toArray⟩ : ByteArray) ++ ⟨S.toArray⟩) = ⟨([kind, UInt8.ofNat k] ++ S).toArray⟩ := str_app _ ⟨S.toArray⟩
      obtain ⟨m, hm⟩ : ∃ m, 122 - cSz l = m := ⟨_, rfl⟩
      have hme : (124 : Int) - ((k : Int) + 1 + 1) - (B.length : Int) = (m : Int) := by omega
      have hml : m ≤ 122 := by omega
      have hmk := fun W => make_bytes m (by omega) W
      have hst := str_zero m
      have hzl : (List.replicate m (0 : UInt8)).length ≤ 122 := by rw [List.length_replicate]; exact hml
      rw [hm] at HBD
      clear hm
      obtain ⟨Z, hZ⟩ : ∃ Z, List.replicate m (0 : UInt8) = Z := ⟨_, rfl⟩
      rw [hZ] at HBD hst hzl
      clear hZ
      have hst1 := hst (wo.alloc (.cells #[.int .u8 (kind.toNat : Int), .int .u8 (k : Int)] 5))
      have e9 : (wo.alloc (.cells #[.int .u8 (kind.toNat : Int), .int .u8 (k : Int)] 5)).heap.size = wo.heap.size + 1 := by simp
      rw [e9] at hst1
      clear e9 hst
      obtain ⟨T, hT⟩ : ∃ T, [kind, UInt8.ofNat k] ++ S ++ (Z ++ B) = T := ⟨_, rfl⟩
      have hX : (⟨(kind :: UInt8.ofNat k :: S).toArray⟩ : ByteArray) ++ (⟨Z.toArray⟩ ++ ⟨B.toArray⟩) = ⟨T.toArray⟩ := by
        rw [← hT]
        apply ByteArray.ext
        simp
      have hTl : T.length ≤ 1000 := by
        rw [← hT]
        simp only [List.length_append, List.length_cons, List.length_nil]
        omega
      rw [hT] at HBD
      have hSZ : (⟨T.toArray⟩ : ByteArray).size ≤ 1000000 := by rw [size_list]; omega
      have hol := ofN_lt T
      have HOF := Lib.hid (fun W => r2Of_any ⟨T.toArray⟩ W hSZ)
      have HNM := Lib.hid (fun W => rNum_yes (ofN T) 4 W (by omega) (by omega) (by omega))
      have hnl : (numB (ofN T) 4).length ≤ 4 := by rw [numB_len]; omega
      have HTG : Hid (tagB T = numB (ofN T) 4 ++ T) := Lib.hid rfl
      clear hT hSZ
      generalize ofN T = f at *
      generalize numB f 4 = NB at *
      go_wp2_with (first
        | (go_at_call 44; refine (HOF.out _).mono ?_; rintro e w1 ⟨rfl, rfl⟩)
        | (go_at_call 30; refine (HNM.out _).mono ?_; rintro e w2 ⟨rfl, h2⟩; have B2 := Lib.hid h2; clear h2))
      go_ret2
      refine ⟨by rw [HBD.out, HTG.out]; first | rfl | simp, ?_⟩
      exact below_step ((HB.out.alloc HB.out.size _).alloc (by have := HB.out.size; simp; omega) _) B2.out

end Go.Proofs.YtdoabcbembinjaaDoor
end
