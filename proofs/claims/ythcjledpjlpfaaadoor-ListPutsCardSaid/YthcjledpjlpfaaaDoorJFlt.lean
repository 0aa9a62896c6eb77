import Derived.Test.YthcjledpjlpfaaaDoorJFls
import Derived.Maps.AppendAt
import Derived.WalkMore
/- Of a claim's texts, joined: Flt. No statement but in the last. -/
namespace Go.Proofs.YthcjledpjlpfaaaDoor
open Go.RowKit
set_option linter.unusedVariables false

def lenV : Value → Nat
  | .slice _ n _ => n
  | _ => 0
def Apart (u v : Value) : Prop := u.ownBlock = none ∨ v.ownBlock = none ∨ u.ownBlock ≠ v.ownBlock
theorem Apart.symm {u v : Value} (h : Apart u v) : Apart v u := by
  rcases h with h | h | h
  · exact Or.inr (Or.inl h)
  · exact Or.inl h
  · exact Or.inr (Or.inr h.symm)
theorem Apart.off {u v : Value} (h : Apart u v) : v.ownBlock = none ∨ v.ownBlock ≠ u.ownBlock := by
  rcases h with h | h | h
  · by_cases e : v.ownBlock = none
    · exact Or.inl e
    · exact Or.inr (fun e2 => e (e2.trans h))
  · exact Or.inl h
  · exact Or.inr h.symm
theorem Apart.next {w : World} {B s n : Nat} {e : TypeId} {xs : List Value} {u u' v : Value} (h : Apart u v) (ho : w.ownsRow B e s v n xs) (hat : u'.ownBlock = u.ownBlock ∨ u'.ownBlock = some w.heap.size) : Apart u' v := by
  rcases hat with e1 | e1
  · unfold Apart
    rw [e1]
    exact h
  · by_cases h0 : v.ownBlock = none
    · exact Or.inr (Or.inl h0)
    · refine Or.inr (Or.inr (fun e2 => ?_))
      have := (ho.lt w.heap.size (e2.symm.trans e1)).2
      omega
theorem Apart.fresh {w : World} {B s n : Nat} {e : TypeId} {xs : List Value} {u v : Value} (ho : w.ownsRow B e s u n xs) (hv : ∀ g, v.ownBlock = some g → w.heap.size ≤ g) : Apart u v := by
  by_cases h0 : v.ownBlock = none
  · exact Or.inr (Or.inl h0)
  · obtain ⟨g, hg⟩ := Option.ne_none_iff_exists'.1 h0
    refine Or.inr (Or.inr (fun e2 => ?_))
    have h1 := (ho.lt g (e2.trans hg)).2
    have h2 := hv g hg
    omega
theorem own_len {w : World} {B n : Nat} {v : Value} {l : List Int} (h : w.ownsRow B 3 1 v n (l.map (Value.int .i64))) : n = l.length := by
  have := h.1
  simpa using this.symm
structure GtSt (w : World) (mb : Nat) (wr : World) (u v : Value) (l a : List Int) (g : Int → Option Value) : Prop where
  ol : wr.ownsRow w.heap.size 3 1 u l.length (l.map (Value.int .i64))
  oa : wr.ownsRow w.heap.size 3 1 v a.length (a.map (Value.int .i64))
  ne : Apart u v
  mp : MapAt wr mb g
  un : ∀ k x, g k = some x → x = .agg #[]
  me : ∀ k, (g k).isSome = true ↔ k ∈ a
  be : Below w.heap.size w wr
section
variable {w wr w4 : World} {mb : Nat} {u u' v v' : Value} {l a : List Int} {g : Int → Option Value} {x : Int} {tmp : Obj}
theorem GtSt.below (h : GtSt w mb wr u v l a g) (hb : Below wr.heap.size wr w4) : GtSt w mb w4 u v l a g :=
  ⟨ceOwnBelow h.ol hb, ceOwnBelow h.oa hb, h.ne, h.mp.keep (hb.block mb h.mp.lt), h.un, h.me, below_step h.be hb⟩
theorem GtSt.alloc (h : GtSt w mb wr u v l a g) (o : Obj) : GtSt w mb (wr.alloc o) u v l a g := h.below ((Below.refl _ wr).alloc (Nat.le_refl _) o)
theorem GtSt.addL (h : GtSt w mb wr u v l a g) (ho : w4.ownsRow w.heap.size 3 1 u' (l.length + 1) (l.map (Value.int .i64) ++ [.int .i64 x])) (hg : (wr.alloc tmp).grownBy w4 u.ownBlock) (hat : u'.ownBlock = u.ownBlock ∨ u'.ownBlock = some (wr.alloc tmp).heap.size) : GtSt w mb w4 u' v (l ++ [x]) a g := by
  have ha := h.alloc tmp
  exact ⟨by rw [List.length_append, List.map_append]; exact ho, ha.oa.kept hg ha.ne.off, ha.ne.next ha.oa hat, ha.mp.own ha.ol hg, h.un, h.me, below_ownR ha.be hg ha.ol ha.be.size⟩
theorem GtSt.addA (h : GtSt w mb wr u v l a g) (hmb : w.heap.size ≤ mb) (ho : w4.ownsRow w.heap.size 3 1 v' (a.length + 1) (a.map (Value.int .i64) ++ [.int .i64 x])) (hg : (wr.alloc tmp).grownBy w4 v.ownBlock) (hat : v'.ownBlock = v.ownBlock ∨ v'.ownBlock = some (wr.alloc tmp).heap.size) :
    MapAt w4 mb g ∧ ∀ w5, MapAt w5 mb (putM g x (.agg #[])) → w4.grownBy w5 (some mb) → GtSt w mb w5 u v' l (a ++ [x]) (putM g x (.agg #[])) := by
  have ha := h.alloc tmp
  have hm : MapAt w4 mb g := ha.mp.own ha.oa hg
  have hol := ha.ol.kept hg ha.ne.symm.off
  refine ⟨hm, fun w5 hm5 hg5 => ⟨hol.kept hg5 (.inr (hm.not_own hol)), ?_, (ha.ne.symm.next ha.ol hat).symm, hm5, put_unit h.un, put_mem h.me, put_below (below_ownR ha.be hg ha.oa ha.be.size) hg5 hmb⟩⟩
  rw [List.length_append, List.map_append]
  exact ho.kept hg5 (.inr (hm.not_own ho))
end
def GetEndL (r : List Int × List Int × Int) (w : World) (e : Ending) (w' : World) : Prop := ∃ A n c B m d, e = .returned (.tuple #[.slice A n c, .slice B m d, .int .i64 r.2.2]) ∧ Ints6 w' A n r.1 ∧ Ints6 w' B m r.2.1 ∧ Below w.heap.size w w'
theorem GetEndL.no {r : List Int × List Int × Int} {w w' : World} {er : Int} (h : r = ([], [], er)) (hb : Below w.heap.size w w') : GetEndL r w (.returned (.tuple #[.slice none 0 0, .slice none 0 0, .int .i64 er])) w' := by
  subst h
  exact ⟨none, 0, 0, none, 0, 0, rfl, ⟨rfl, Reads.empty⟩, ⟨rfl, Reads.empty⟩, hb⟩
def RoomL (room : Nat) (l a : List Int) : Prop := (room = 59 ∧ l.length = 59 * a.length) ∨ (room = 0 ∧ l.length < 59 * a.length)
theorem RoomL.over {room : Nat} {l a part : List Int} (h : RoomL room l a) (hp : room < part.length) : badNum l a part := by
  unfold badNum
  rcases h with ⟨h1, h2⟩ | ⟨h1, h2⟩
  · exact Or.inl (by omega)
  · exact Or.inr (Or.inl (by omega))
theorem RoomL.fits {room : Nat} {l a part : List Int} (h : RoomL room l a) (hp : ¬ room < part.length) (ho : okL (l ++ part)) : ¬ badNum l a part := by
  unfold badNum
  rcases h with ⟨h1, h2⟩ | ⟨h1, h2⟩
  · rintro (h | h | h)
    · omega
    · omega
    · exact h ho
  · rintro (h | h | h)
    · omega
    · omega
    · exact h ho
theorem RoomL.less {room : Nat} {l a part : List Int} {p : Int} (h : RoomL room l a) (hp : ¬ room < part.length) (h5 : part.length < 59) : RoomL 0 (l ++ part) (a ++ [p]) := by
  refine Or.inr ⟨rfl, ?_⟩
  rw [List.length_append, List.length_append, List.length_singleton]
  rcases h with ⟨h1, h2⟩ | ⟨h1, h2⟩ <;> omega
theorem RoomL.full {room : Nat} {l a part : List Int} {p : Int} (h : RoomL room l a) (hp : ¬ room < part.length) (h5 : ¬ part.length < 59) : RoomL room (l ++ part) (a ++ [p]) := by
  rcases h with ⟨h1, h2⟩ | ⟨h1, h2⟩
  · refine Or.inl ⟨h1, ?_⟩
    rw [List.length_append, List.length_append, List.length_singleton]
    omega
  · omega
theorem badNum_fol {l a part : List Int} {k : Nat} (hk : k < part.length) (hf : folB (l ++ part.take k) part[k] = false) : badNum l a part := by
  unfold badNum
  refine Or.inr (Or.inr (fun ho => ?_))
  have e : l ++ part = ((l ++ part.take k) ++ [part[k]]) ++ part.drop (k + 1) := by
    rw [List.append_assoc, List.append_assoc]
    congr 1
    rw [← List.append_assoc, ← List.take_succ_eq_append_getElem hk, List.take_append_drop]
  rw [e] at ho
  have := ((okL_snoc _ _).1 (okL_app_left ho)).2
  rw [hf] at this
  cases this
section
variable {w : World} {T : Tg} {d D A : Nat} {rs : List Rg}
theorem fGet_zero (x : Int) : Calls Tryd.prog 20 #[.pointer (some ⟨D, 0, none⟩), .int .i64 x, .int .i64 0] w (GetEndL (getL (fun p => (rdL rs x p, rdE rs x p)) 0) w) := by
  have HR := Lib.hid (GetEndL.no (r := getL (fun p => (rdL rs x p, rdE rs x p)) 0) (w := w) (w' := w) (er := 0) rfl (Below.refl _ _))
  go_enter Tryd.func20, Tryd.ntmps20
  go_wp2
  go_step3
  go_wp2
  (try rw [Exit.noGoto_ret])
  go_ret3
  exact HR.out
set_option maxRecDepth 100000 in
set_option maxHeartbeats 8000000 in
theorem fGet_yes (x first : Int) (ht : Tab w) (h : Dk w T d D A rs) (hsz : ∀ p, rdE rs x p = 0 → 0 ≤ p ∧ p < 1000) (hf0 : first ≠ 0) : Calls Tryd.prog 20 #[.pointer (some ⟨D, 0, none⟩), .int .i64 x, .int .i64 first] w (GetEndL (getL (fun p => (rdL rs x p, rdE rs x p)) first) w) := by
  obtain ⟨R, hR⟩ : ∃ R, getL (fun p => (rdL rs x p, rdE rs x p)) first = R := ⟨_, rfl⟩
  have hR0 : getLs (fun p => (rdL rs x p, rdE rs x p)) 1001 first [] [] = R := by
    rw [← hR]
    unfold getL
    rw [if_neg hf0]
  rw [hR]
  have HR0 := Lib.hid hR0
  obtain ⟨i0, hi, hz0', hsz', hby⟩ := info_parts int_info
  have HD := Lib.hid (fun wr (hb : Below w.heap.size w wr) p => fGetPart_any x p (ht.below hb) (h.below hb))
  have HM := Lib.hid (fun A n c l y w1 h hn => fMay_any A n c l y w1 h hn)
  have HP : Hid (∀ x w1, Calls Tryd.prog 42 #[.int .i64 x] w1 fun e w' => e = .returned (.bool (pgOk x)) ∧ Below w1.heap.size w1 w') := Lib.hid (fun x w1 => by
    refine (fIsPage_any x w1).mono ?_
    rintro e w' ⟨rfl, rfl⟩
    exact ⟨rfl, Below.refl _ _⟩)
  have HSZ := Lib.hid hsz
  have hzv : ∀ w, (zeroValue 91).run Tryd.prog w = .ok (.agg #[]) w := fun w => by kernel_rfl
  have hf0b : (first == 0) = false := by simpa using hf0
  have HF0 := Lib.hid hf0
  clear h ht hR hR0 hsz hf0
  obtain ⟨mb, hmb⟩ : ∃ mb, w.heap.size = mb := ⟨_, rfl⟩
  have hM0 := MapAt.made w
  rw [hmb] at hM0
  have HMB : Hid (w.heap.size ≤ mb) := Lib.hid (by omega)
  go_enter Tryd.func20, Tryd.ntmps20
  have hmm := @run_makeMap Tryd.prog
  go_wp2
  go_step3
  go_wp2
  go_step3
  go_wp2
  clear hmb hmm
  have G0 : GtSt w mb (w.alloc (.map #[] 0)) (.slice none 0 0) (.slice none 0 0) [] [] noMap := ⟨World.ownsRow_nil _ _ _ _, World.ownsRow_nil _ _ _ _, Or.inl rfl, hM0, (fun k v h => by cases h), (fun k => by simp [noMap]), (Below.refl _ w).alloc (Nat.le_refl _) _⟩
  go_loopw [9, 10, 12, 13] (fun v9 v10 v12 v13 wr => ∃ (f : Nat) (p : Int) (room : Nat) (l a : List Int) (g : Int → Option Value), GtSt w mb wr v9 v10 l a g ∧ v12 = .int .i64 p ∧ v13 = .int .i64 (room : Int) ∧ RoomL room l a ∧ okL l ∧ getLs (fun p => (rdL rs x p, rdE rs x p)) f p l a = R ∧ leftP a < f ∧ f + a.length = 1001 ∧ p ∉ a ∧ l.length ≤ 59 * a.length) (fun _ v10 _ _ _ => 1001 - lenV v10)
  case atStart => exact ⟨1001, first, 59, [], [], noMap, G0, rfl, rfl, Or.inl ⟨rfl, rfl⟩, fun j hj => absurd hj (by simp), HR0.out, Nat.lt_succ_of_le leftP_nil, rfl, by simp, by simp⟩
  case round =>
    clear G0 hM0
    obtain ⟨f, p, room, l, a, g, hgs, rfl, rfl, hroom, hokl, hF, hlf, hfa, hpa, hla⟩ := hrel
    obtain ⟨wv, hwv⟩ : ∃ wv : World, wv = wr := ⟨_, rfl⟩
    subst hwv
    have GS := Lib.hid hgs
    have HRM := Lib.hid hroom
    have HOK := Lib.hid hokl
    have HF := Lib.hid hF
    have HLF := Lib.hid hlf
    have HFA := Lib.hid hfa
    have HPA := Lib.hid hpa
    have HLA := Lib.hid hla
    have hal : a.length ≤ 1000 := by omega
    have hll : l.length ≤ 59000 := by omega
    obtain ⟨A10, c10, rfl, hc10, hm10⟩ := own_sliceI hgs.oa
    obtain ⟨f, rfl⟩ : ∃ f', f = f' + 1 := ⟨f - 1, by omega⟩
    have HGP := Lib.hid (HD.out wv hgs.be p)
    obtain ⟨r, hr⟩ : ∃ r, gpL (rdL rs x p) (rdE rs x p) = r := ⟨_, rfl⟩
    rw [hr] at HGP
    have HR := Lib.hid hr
    have hrm : room ≤ 59 := by rcases hroom with h | h <;> omega
    clear hgs hroom hokl hF hlf hfa hpa hla hr
    obtain ⟨part, nx, er⟩ := r
    unfold GpEndL at HGP
    simp only at HGP
    by_cases he : er = 0
    · subst he
      have HPG : Hid (0 ≤ p ∧ p < 1000) := Lib.hid (HSZ.out p (gpL_ok HR.out rfl).1)
      by_cases hgt : room < part.length
      · have HE : Hid (R = ([], [], 11)) := Lib.hid (by
          rw [← HF.out]
          exact getLs_num (rd := fun p => (rdL rs x p, rdE rs x p)) (r := (part, nx, (0 : Int))) HR.out rfl (HRM.out.over hgt))
        have hgtI : (room : Int) < (part.length : Int) := by omega
        clear hgt
        go_wp2_with (go_at_call 40; go_loud ((with_reducible refine HGP.out.mono ?_); rintro e w1 ⟨Ap, np, cp, rfl, op, bp⟩; have hnp := own_len op; subst hnp; have G1 := Lib.hid (GS.out.below bp); have AP := Lib.hid (Apart.fresh GS.out.ol (fun g e => (op.lt g e).1)); have OP := Lib.hid (own_low op GS.out.be.size); clear op bp))
        go_ret3
        exact GetEndL.no HE.out G1.out.be
      · have hgtI : ¬ (room : Int) < (part.length : Int) := by omega
        have hpl : part.length ≤ 59 := by omega
        have HGT := Lib.hid hgt
        clear hgt
        go_wp2_with (go_at_call 40; go_loud ((with_reducible refine HGP.out.mono ?_); rintro e w1 ⟨Ap, np, cp, rfl, op, bp⟩; have hnp := own_len op; subst hnp; have G1 := Lib.hid (GS.out.below bp); have AP := Lib.hid (Apart.fresh GS.out.ol (fun g e => (op.lt g e).1)); have OP := Lib.hid (own_low op GS.out.be.size); clear op bp))
        have G1b := G1
        have hIN0 : okL (l ++ part.take 0) ∧ l ++ part.take 0 = l := by rw [List.take_zero, List.append_nil]; exact ⟨HOK.out, rfl⟩
        have HIN0 := Lib.hid hIN0
        clear hIN0
        simp only [decide_eq_false HGT.out]
        go_loopw [9, 42] (fun v9 i wq => ∃ k : Nat, k ≤ part.length ∧ i = .int .i64 (k : Int) ∧ GtSt w mb wq v9 (.slice A10 a.length c10) (l ++ part.take k) a g ∧ wq.ownsRow w.heap.size 3 1 (.slice Ap part.length cp) part.length (part.map (Value.int .i64)) ∧ Apart v9 (.slice Ap part.length cp) ∧ okL (l ++ part.take k)) (fun _ i _ => part.length - (intOf i).toNat)
        case atStart => exact ⟨0, Nat.zero_le _, rfl, by rw [HIN0.out.2]; exact G1.out, OP.out, AP.out, HIN0.out.1⟩
        case round =>
          clear G1 G1b OP AP
          obtain ⟨k, hk, rfl, hgq, hop, hap, hok⟩ := hrel
          have GQ := Lib.hid hgq
          have OQ := Lib.hid hop
          have AQ := Lib.hid hap
          have HOQ := Lib.hid hok
          obtain ⟨A9, c9, rfl, hc9, hm9, hI9⟩ := Ints6.of_own hgq.ol
          have I9 := Lib.hid hI9
          have hlk : (l ++ part.take k).length ≤ 60000 := by rw [List.length_append, List.length_take]; omega
          by_cases hlt : k < part.length
          · obtain ⟨A', c', e', _, _, hIp⟩ := Ints6.of_own hop
            injection e' with e1 e2 e3
            subst e1 e3
            obtain ⟨g5, o5, rfl, ck⟩ := hIp.at_ (List.getElem?_eq_getElem hlt)
            have HBN := Lib.hid (fun h => badNum_fol (l := l) (a := a) hlt h)
            have HTK : Hid (l ++ part.take (k + 1) = (l ++ part.take k) ++ [part[k]]) := Lib.hid (by rw [List.take_succ_eq_append_getElem hlt, List.append_assoc])
            obtain ⟨y, hy⟩ : ∃ y, part[k] = y := ⟨_, rfl⟩
            rw [hy] at ck HBN HTK
            obtain ⟨lk, hlkE⟩ : ∃ lk, l ++ part.take k = lk := ⟨_, rfl⟩
            rw [hlkE] at GQ HOQ I9 hlk HBN HTK AQ
            have HMY := Lib.hid (HM.out A9 lk.length c9 lk y wr I9.out (by omega))
            clear hgq hop hap hok hIp hy hI9
            rw [hlkE]
            cases hfb : folB lk y
            · have HE : Hid (R = ([], [], 11)) := Lib.hid (by
                rw [← HF.out]
                exact getLs_num (rd := fun p => (rdL rs x p, rdE rs x p)) (r := (part, nx, (0 : Int))) HR.out rfl (HBN.out hfb))
              rw [hfb] at HMY
              clear hfb hlkE
              go_wp2_with (go_at_call 41; (with_reducible refine HMY.out.mono ?_); rintro e w5 ⟨rfl, rfl⟩)
              go_ret3
              exact GetEndL.no HE.out GQ.out.be
            · rw [hfb] at HMY
              have HOK2 : Hid (okL (lk ++ [y])) := Lib.hid ((okL_snoc _ _).2 ⟨HOQ.out, hfb⟩)
              clear hfb hlkE
              go_wp2_with (first
                | (go_at_call 41; (with_reducible refine HMY.out.mono ?_); rintro e w5 ⟨rfl, rfl⟩)
                | (at_builtin; go_loud (refine wpList_append_own_at _ rfl _ _ 22 rfl w.heap.size 3 i0 (.int .i64 0) 1 8 Tryd.underlying22 hi hz0' hsz' hby rfl (by decide) _ lk.length _ rfl (GQ.out.ol.alloc _) ⟨wr.heap.size, 0, none⟩ 1 1 [.int .i64 y] rfl rfl (lies_one9 _ _ _) (by simp [Value.oneCell']) (by unfold maxLen; omega) (by omega) (Nat.le_trans GQ.out.be.size (by simp)) ?_; intro v6 w6 h7 h8 hnil hat; clear hnil; have hoq := OQ.out.alloc (.cells #[.int .i64 y] 3); have G6 := Lib.hid (GQ.out.addL h7 h8 hat); have O6 := Lib.hid (hoq.kept h8 AQ.out.off); have A6 := Lib.hid (AQ.out.next hoq hat); clear hoq h7 h8 hat)))
              go_roundw
              case rel => exact ⟨k + 1, by omega, by go_num, by rw [HTK.out]; exact G6.out, O6.out, A6.out, by rw [HTK.out]; exact HOK2.out⟩
              case measure => simp [intOf]; omega
          · obtain rfl : k = part.length := by omega
            rw [List.take_length] at GQ HOQ hlk I9
            have HNB := Lib.hid (HRM.out.fits HGT.out HOQ.out)
            obtain ⟨wo, hwo⟩ : ∃ wo : World, wo = wr := ⟨_, rfl⟩
            subst hwo
            have HL2 : Hid ((l ++ part).length ≤ 59 * (a ++ [p]).length) := Lib.hid (by rw [List.length_append, List.length_append, List.length_singleton]; have := HLA.out; omega)
            obtain ⟨l2, hl2⟩ : ∃ l2, l ++ part = l2 := ⟨_, rfl⟩
            have HL2E := Lib.hid hl2
            have e9 : (.slice A9 (l ++ part.take part.length).length c9 : Value) = .slice A9 l2.length c9 := by rw [List.take_length, hl2]
            rw [e9]
            rw [hl2] at GQ HOQ hlk I9 HL2
            clear hl2 e9 hgq hop hap hok hI9 hk hlt
            by_cases hn0 : nx = 0
            · subst hn0
              have HE : Hid ((l2, a ++ [p], (0 : Int)) = R) := Lib.hid (by
                rw [← HF.out, ← HL2E.out]
                exact (getLs_last (rd := fun p => (rdL rs x p, rdE rs x p)) (r := (part, (0 : Int), (0 : Int))) HR.out rfl HNB.out rfl).symm)
              go_wp2_with (at_builtin; go_loud (refine wpList_append_own_at _ rfl _ _ 22 rfl w.heap.size 3 i0 (.int .i64 0) 1 8 Tryd.underlying22 hi hz0' hsz' hby rfl (by decide) _ a.length _ rfl (GQ.out.oa.alloc _) ⟨wo.heap.size, 0, none⟩ 1 1 [.int .i64 p] rfl rfl (lies_one9 _ _ _) (by simp [Value.oneCell']) (by unfold maxLen; omega) (by omega) (Nat.le_trans GQ.out.be.size (by simp)) ?_; intro v4 w4 h7 h8 hnil hat; clear hnil; obtain ⟨A4, c4, rfl, _, _⟩ := own_sliceI h7; have hga := GQ.out.addA HMB.out h7 h8 hat; obtain ⟨w5, hput, hM5, hg5, hsz5⟩ := run_put (P := Tryd.prog) (w := w4) Tryd.underlying88 Tryd.underlying3 hga.1 p (.agg #[]); have G5 := Lib.hid (hga.2 w5 hM5 hg5); clear hga hM5 hg5 hsz5 h7 h8 hat))
              have GF := G5.out
              obtain ⟨AF, cF, eF, _, _, IF⟩ := Ints6.of_own GF.oa
              obtain ⟨AE, cE, eE, _, _, IE⟩ := Ints6.of_own GF.ol
              go_ret3
              rw [← HE.out]
              exact ⟨A9, l2.length, c9, A4, _, c4, rfl, by injection eE with e1 e2 e3; subst e1 e3; exact IE, by rw [List.length_append] at IF eF; injection eF with e1 e2 e3; subst e1 e3; exact IF, GF.be⟩
            · have hn0b : (nx == 0) = false := by simpa using hn0
              have HN0 := Lib.hid hn0
              have HPX := Lib.hid (HP.out nx)
              by_cases hbad : badNx (a ++ [p]) nx
              · have HE : Hid (R = ([], [], 11)) := Lib.hid (by
                  rw [← HF.out]
                  exact getLs_next (rd := fun p => (rdL rs x p, rdE rs x p)) (r := (part, nx, (0 : Int))) HR.out rfl hn0 hbad)
                cases hfx : putM g p (.agg #[]) nx with
                | some u =>
                  obtain rfl := put_unit (p := p) GQ.out.un _ _ hfx
                  clear hbad hn0
                  go_wp2_with (at_builtin; go_loud (refine wpList_append_own_at _ rfl _ _ 22 rfl w.heap.size 3 i0 (.int .i64 0) 1 8 Tryd.underlying22 hi hz0' hsz' hby rfl (by decide) _ a.length _ rfl (GQ.out.oa.alloc _) ⟨wo.heap.size, 0, none⟩ 1 1 [.int .i64 p] rfl rfl (lies_one9 _ _ _) (by simp [Value.oneCell']) (by unfold maxLen; omega) (by omega) (Nat.le_trans GQ.out.be.size (by simp)) ?_; intro v4 w4 h7 h8 hnil hat; clear hnil; obtain ⟨A4, c4, rfl, _, _⟩ := own_sliceI h7; have hga := GQ.out.addA HMB.out h7 h8 hat; obtain ⟨w5, hput, hM5, hg5, hsz5⟩ := run_put (P := Tryd.prog) (w := w4) Tryd.underlying88 Tryd.underlying3 hga.1 p (.agg #[]); have G5 := Lib.hid (hga.2 w5 hM5 hg5); have hlk := run_look_some (P := Tryd.prog) (mty := 88) (kt := 3) (et := 91) Tryd.underlying88 Tryd.underlying3 G5.out.mp hfx true; simp only [if_true] at hlk; clear hga hM5 hg5 hsz5 h7 h8 hat))
                  go_ret3
                  exact GetEndL.no HE.out (G5.out.be.alloc G5.out.be.size _)
                | none =>
                  have hpg : pgOk nx = false := by
                    rcases hbad with h | h
                    · exact h
                    · have := (put_mem (p := p) GQ.out.me nx).2 h
                      rw [hfx] at this
                      cases this
                  rw [hpg] at HPX
                  clear hbad hn0 hpg
                  go_wp2_with (first
                    | (at_builtin; go_loud (refine wpList_append_own_at _ rfl _ _ 22 rfl w.heap.size 3 i0 (.int .i64 0) 1 8 Tryd.underlying22 hi hz0' hsz' hby rfl (by decide) _ a.length _ rfl (GQ.out.oa.alloc _) ⟨wo.heap.size, 0, none⟩ 1 1 [.int .i64 p] rfl rfl (lies_one9 _ _ _) (by simp [Value.oneCell']) (by unfold maxLen; omega) (by omega) (Nat.le_trans GQ.out.be.size (by simp)) ?_; intro v4 w4 h7 h8 hnil hat; clear hnil; obtain ⟨A4, c4, rfl, _, _⟩ := own_sliceI h7; have hga := GQ.out.addA HMB.out h7 h8 hat; obtain ⟨w5, hput, hM5, hg5, hsz5⟩ := run_put (P := Tryd.prog) (w := w4) Tryd.underlying88 Tryd.underlying3 hga.1 p (.agg #[]); have G5 := Lib.hid (hga.2 w5 hM5 hg5); have hlk := run_look_none (P := Tryd.prog) (mty := 88) (kt := 3) (et := 91) Tryd.underlying88 Tryd.underlying3 hzv G5.out.mp hfx true; simp only [if_true] at hlk; clear hga hM5 hg5 hsz5 h7 h8 hat))
                    | (go_at_call 42; (with_reducible refine (HPX.out _).mono ?_); rintro e w8 ⟨rfl, b8⟩; have G8 := Lib.hid ((G5.out.alloc _).below b8); clear b8))
                  go_ret3
                  exact GetEndL.no HE.out G8.out.be
              · have hpg : pgOk nx = true := by
                  cases h : pgOk nx
                  · exact absurd (Or.inl h) hbad
                  · rfl
                have hna : nx ∉ a ++ [p] := fun h => hbad (Or.inr h)
                have hfx : putM g p (.agg #[]) nx = none := by
                  cases h : putM g p (.agg #[]) nx with
                  | none => rfl
                  | some u => exact absurd ((put_mem (p := p) GQ.out.me nx).1 (by rw [h]; rfl)) hna
                have HE : Hid (getLs (fun p => (rdL rs x p, rdE rs x p)) f nx l2 (a ++ [p]) = R) := Lib.hid (by
                  rw [← HF.out, ← HL2E.out]
                  exact (getLs_go (rd := fun p => (rdL rs x p, rdE rs x p)) (r := (part, nx, (0 : Int))) HR.out rfl HNB.out hn0 hbad).symm)
                have HLF2 : Hid (leftP (a ++ [p]) < f) := Lib.hid (by have h1 := leftP_lt HPG.out.1 HPG.out.2 HPA.out; have h2 := HLF.out; omega)
                have HFA2 : Hid (f + (a ++ [p]).length = 1001) := Lib.hid (by rw [List.length_append, List.length_singleton]; have := HFA.out; omega)
                have HNA := Lib.hid hna
                rw [hpg] at HPX
                clear hbad hn0 hpg hna
                by_cases h59 : part.length < 59
                · have HRM2 : Hid (RoomL 0 l2 (a ++ [p])) := Lib.hid (by rw [← HL2E.out]; exact HRM.out.less HGT.out h59)
                  have h59I : (part.length : Int) < 59 := by omega
                  go_wp2_with (first
                    | (at_builtin; go_loud (refine wpList_append_own_at _ rfl _ _ 22 rfl w.heap.size 3 i0 (.int .i64 0) 1 8 Tryd.underlying22 hi hz0' hsz' hby rfl (by decide) _ a.length _ rfl (GQ.out.oa.alloc _) ⟨wo.heap.size, 0, none⟩ 1 1 [.int .i64 p] rfl rfl (lies_one9 _ _ _) (by simp [Value.oneCell']) (by unfold maxLen; omega) (by omega) (Nat.le_trans GQ.out.be.size (by simp)) ?_; intro v4 w4 h7 h8 hnil hat; clear hnil; obtain ⟨A4, c4, rfl, _, _⟩ := own_sliceI h7; have hga := GQ.out.addA HMB.out h7 h8 hat; obtain ⟨w5, hput, hM5, hg5, hsz5⟩ := run_put (P := Tryd.prog) (w := w4) Tryd.underlying88 Tryd.underlying3 hga.1 p (.agg #[]); have G5 := Lib.hid (hga.2 w5 hM5 hg5); have hlk := run_look_none (P := Tryd.prog) (mty := 88) (kt := 3) (et := 91) Tryd.underlying88 Tryd.underlying3 hzv G5.out.mp hfx true; simp only [if_true] at hlk; clear hga hM5 hg5 hsz5 h7 h8 hat))
                    | (go_at_call 42; (with_reducible refine (HPX.out _).mono ?_); rintro e w8 ⟨rfl, b8⟩; have G8 := Lib.hid ((G5.out.alloc _).below b8); clear b8))
                  go_roundw
                  case rel => exact ⟨f, nx, 0, l2, a ++ [p], _, G8.out, rfl, rfl, HRM2.out, HOQ.out, HE.out, HLF2.out, HFA2.out, HNA.out, HL2.out⟩
                  case measure => simp [lenV]; omega
                · have HRM2 : Hid (RoomL room l2 (a ++ [p])) := Lib.hid (by rw [← HL2E.out]; exact HRM.out.full HGT.out h59)
                  have h59I : ¬ (part.length : Int) < 59 := by omega
                  go_wp2_with (first
                    | (at_builtin; go_loud (refine wpList_append_own_at _ rfl _ _ 22 rfl w.heap.size 3 i0 (.int .i64 0) 1 8 Tryd.underlying22 hi hz0' hsz' hby rfl (by decide) _ a.length _ rfl (GQ.out.oa.alloc _) ⟨wo.heap.size, 0, none⟩ 1 1 [.int .i64 p] rfl rfl (lies_one9 _ _ _) (by simp [Value.oneCell']) (by unfold maxLen; omega) (by omega) (Nat.le_trans GQ.out.be.size (by simp)) ?_; intro v4 w4 h7 h8 hnil hat; clear hnil; obtain ⟨A4, c4, rfl, _, _⟩ := own_sliceI h7; have hga := GQ.out.addA HMB.out h7 h8 hat; obtain ⟨w5, hput, hM5, hg5, hsz5⟩ := run_put (P := Tryd.prog) (w := w4) Tryd.underlying88 Tryd.underlying3 hga.1 p (.agg #[]); have G5 := Lib.hid (hga.2 w5 hM5 hg5); have hlk := run_look_none (P := Tryd.prog) (mty := 88) (kt := 3) (et := 91) Tryd.underlying88 Tryd.underlying3 hzv G5.out.mp hfx true; simp only [if_true] at hlk; clear hga hM5 hg5 hsz5 h7 h8 hat))
                    | (go_at_call 42; (with_reducible refine (HPX.out _).mono ?_); rintro e w8 ⟨rfl, b8⟩; have G8 := Lib.hid ((G5.out.alloc _).below b8); clear b8))
                  go_roundw
                  case rel => exact ⟨f, nx, room, l2, a ++ [p], _, G8.out, rfl, rfl, HRM2.out, HOQ.out, HE.out, HLF2.out, HFA2.out, HNA.out, HL2.out⟩
                  case measure => simp [lenV]; omega
    · have hne : (er != 0) = true := by simpa using he
      have HE : Hid (R = ([], [], er)) := Lib.hid (by
        rw [← HF.out]
        exact getLs_bad (rd := fun p => (rdL rs x p, rdE rs x p)) (r := (part, nx, er)) HR.out he)
      clear he
      go_wp2_with (go_at_call 40; go_loud ((with_reducible refine HGP.out.mono ?_); rintro e w1 ⟨Ap, np, cp, rfl, op, bp⟩; have hnp := own_len op; subst hnp; have G1 := Lib.hid (GS.out.below bp); have AP := Lib.hid (Apart.fresh GS.out.ol (fun g e => (op.lt g e).1)); have OP := Lib.hid (own_low op GS.out.be.size); clear op bp))
      go_ret3
      exact GetEndL.no HE.out G1.out.be
theorem fGet_any (x first : Int) (ht : Tab w) (h : Dk w T d D A rs) (hsz : ∀ p, rdE rs x p = 0 → 0 ≤ p ∧ p < 1000) : Calls Tryd.prog 20 #[.pointer (some ⟨D, 0, none⟩), .int .i64 x, .int .i64 first] w (GetEndL (getL (fun p => (rdL rs x p, rdE rs x p)) first) w) := by
  by_cases h0 : first = 0
  · subst h0
    exact fGet_zero x
  · exact fGet_yes x first ht h hsz h0
end
end Go.Proofs.YthcjledpjlpfaaaDoor
