import Derived.Test.YtnponjdnjkegmaaDoorJ04
import Derived.Test.YtnponjdnjkegmaaDoorJ07
import Derived.Test.YtnponjdnjkegmaaDoorJ08
/- Of a claim's texts, joined: Nel. No statement but in the last. -/
namespace Go.Proofs.YtnponjdnjkegmaaDoor
open Go.RowKit
set_option linter.unusedVariables false

def takeE (leaf : Bool) (l : List UInt8) (er : Int) : En × List UInt8 × Int :=
  if leaf then
    let m := stN l er 1
    if m.1 = 0 then let r := stS m.2.1 m.2.2 m.2.1.length; (⟨[], r.1, false, 0, 0⟩, r.2.1, r.2.2)
    else let s := stN m.2.1 m.2.2 2; let p := stN s.2.1 s.2.2 2; (⟨[], [], true, (s.1 : Int), (p.1 : Int)⟩, p.2.1, p.2.2)
  else let p := stN l er 2; (⟨[], [], false, 0, (p.1 : Int)⟩, p.2.1, p.2.2)
theorem readE_take (leaf : Bool) (c : List UInt8) : readE leaf c = { (takeE leaf (stT c 0).2.1 (stT c 0).2.2).1 with k := (stT c 0).1 } := by
  unfold readE takeE
  cases leaf
  · rfl
  · simp only [if_true]
    split <;> rfl
theorem stT_len (l : List UInt8) (er : Int) : (stT l er).2.1.length ≤ l.length := by
  unfold stT stS
  have := stN_len l er 1
  split
  · exact this
  · split
    · exact this
    · simp only [List.length_drop]; omega
theorem stS_few (l : List UInt8) (er : Int) (n : Nat) : (stS l er n).1.length ≤ l.length := by
  unfold stS
  split
  · simp
  · split
    · simp
    · simp only [List.length_take]; omega
theorem readE_few (leaf : Bool) (c : List UInt8) : (readE leaf c).k.length ≤ c.length ∧ (readE leaf c).d.length ≤ c.length := by
  have h1 : (stT c 0).1.length ≤ c.length := by
    unfold stT
    have := stN_len c 0 1
    have := stS_few (stN c 0 1).2.1 (stN c 0 1).2.2 (stN c 0 1).1
    omega
  have h2 := stT_len c 0
  unfold readE
  cases leaf
  · exact ⟨h1, Nat.zero_le _⟩
  · simp only [if_true]
    split
    · refine ⟨h1, ?_⟩
      have h3 := stN_len (stT c 0).2.1 (stT c 0).2.2 1
      have h4 := stS_few (stN (stT c 0).2.1 (stT c 0).2.2 1).2.1 (stN (stT c 0).2.1 (stT c 0).2.2 1).2.2 (stN (stT c 0).2.1 (stT c 0).2.2 1).2.1.length
      simp only
      omega
    · exact ⟨h1, Nat.zero_le _⟩
theorem nlTake_any (base P : Nat) (l : List UInt8) (er : Int) (w : World) (h : Tk w base P l er) (hl : l.length ≤ 1000000) :
    Calls Tryd.prog 86 #[.agg #[], .pointer (some ⟨P, 0, none⟩)] w (ValEnd base P w (takeE true l er).1 (takeE true l er).2.1 (takeE true l er).2.2) := by
  unfold takeE
  simp only [if_true]
  by_cases hm : (stN l er 1).1 = 0
  · simp only [if_pos hm]
    exact nlTake_in base P l er w h hl hm
  · simp only [if_neg hm]
    exact nlTake_far base P l er w h hm
theorem nbTake_any2 (base P : Nat) (l : List UInt8) (er : Int) (w : World) (h : Tk w base P l er) :
    Calls Tryd.prog 101 #[.agg #[], .pointer (some ⟨P, 0, none⟩)] w (ValEnd base P w (takeE false l er).1 (takeE false l er).2.1 (takeE false l er).2.2) := nbTake_any base P l er w h

theorem ninfo : (Tryd.prog.info? 24).map (fun i => (i.zero, i.size)) = some (some (.agg #[.bool false, .slice none 0 0]), 2) := by kernel_rfl
theorem zero_node (w : World) : (zeroValue 24).run Tryd.prog w = .ok (.agg #[.bool false, .slice none 0 0]) w := by
  obtain ⟨i, hi, h⟩ := Option.map_eq_some_iff.1 ninfo
  simp only [Prod.mk.injEq] at h
  simp [zeroValue, typeInfo, hi, h.1]
theorem einfo : (Tryd.prog.info? 54).map (fun i => (i.zero, i.size, i.bytes)) = some (some (.agg #[.string ⟨#[]⟩, .string ⟨#[]⟩, .bool false, .int .i64 0, .int .i64 0]), 5, 56) := by kernel_rfl
theorem zero_entry (w : World) : (zeroValue 54).run Tryd.prog w = .ok (.agg #[.string ⟨#[]⟩, .string ⟨#[]⟩, .bool false, .int .i64 0, .int .i64 0]) w := by
  obtain ⟨i, hi, h⟩ := Option.map_eq_some_iff.1 einfo
  simp only [Prod.mk.injEq] at h
  simp [zeroValue, typeInfo, hi, h.1]
theorem assert_leaf (w : World) : (Instr.typeAssert (.iface 89 (.agg #[])) 61 89 true).run Tryd.prog w = .ok (.tuple #[.agg #[], .bool true]) w := by kernel_rfl
theorem assert_branch (w : World) : (Instr.typeAssert (.iface 90 (.agg #[])) 61 89 true).run Tryd.prog w = .ok (.tuple #[.agg #[], .bool false]) w := by kernel_rfl
theorem lies_all (w : World) (us : List Value) (t : TypeId) : ∀ j y, us[j]? = some y → (w.alloc (.cells us.toArray t)).cell? ((⟨w.heap.size, 0, none⟩ : Addr).add j) = some y := fun j y hj => by
  rw [add_plain, (Has.made w t us.toArray).cell, Nat.zero_add]
  simpa using hj
theorem own_cell {w : World} {b B s n : Nat} {e t : TypeId} {v : Value} {xs : List Value} {cs : Array Value} (h : w.ownsRow b e s v n xs) (hB : Has w B t cs) (hne : t ≠ e) (i : Nat) (u : Value) : (w.setCell ⟨B, i, none⟩ u).ownsRow b e s v n xs := by
  refine h.kept (row := some B) (only_store (only_refl w B) i u) ?_
  rcases h.2 with ⟨rfl, _⟩ | ⟨g, cap, cur, rfl, _, hc, _⟩
  · exact .inl rfl
  · refine .inr (fun hq => ?_)
    obtain rfl : g = B := by injection hq
    exact hB.apart (show Has w g e cur from hc) hne rfl
theorem only_cell {w : World} {B g j : Nat} (h : g ≠ B) (i : Nat) (v : Value) : (w.setCell ⟨B, i, none⟩ v).cell? ⟨g, j, none⟩ = w.cell? ⟨g, j, none⟩ := by
  have := Below.heap_setCell w ⟨B, i, none⟩ v g h
  simp [World.cell?, this]
theorem NodA.set {w : World} {A : Option Addr} {n c B : Nat} {l : List En} (h : NodA w A n c l) (hA : ∀ a, A = some a → B < a.block) (i : Nat) (u : Value) : NodA (w.setCell ⟨B, i, none⟩ u) A n c l := by
  refine ⟨h.len, fun hx => ?_, h.room, h.most, h.strs⟩
  obtain ⟨g, off, rfl, hc⟩ := h.reads hx
  refine ⟨g, off, rfl, fun j u hj => ?_⟩
  have := hA _ rfl
  exact (only_cell (B := B) (by show g ≠ B; have : B < g := this; omega) i _).trans (hc j u hj)
def nodQ (leaf : Bool) (q : List Hd) : List En := q.map fun x => readE leaf x.l
theorem nodQ_lq (leaf : Bool) (q : List Hd) : nodQ leaf q = (lq q).map (readE leaf) := by simp [nodQ, lq]
theorem cellsN_snoc (leaf : Bool) {q : List Hd} {k : Nat} (hk : k < q.length) : cellsN ((nodQ leaf q).take (k + 1)) = cellsN ((nodQ leaf q).take k) ++ enC (readE leaf (q[k]).l) := by
  have hk2 : k < (nodQ leaf q).length := by simpa [nodQ] using hk
  rw [List.take_succ_eq_append_getElem hk2, cellsN_app]
  simp [cellsN, nodQ]
def ReadN (w : World) (leaf : Bool) (l : List En) (e : Ending) (w' : World) : Prop := ∃ A n c, e = .returned (.agg #[.bool leaf, .slice A n c]) ∧ NodA w' A n c l ∧ Below w.heap.size w w' ∧ ∀ a, A = some a → w.heap.size ≤ a.block
def RdSt (w : World) (leaf : Bool) (q : List Hd) (k : Nat) (wr : World) : Prop :=
  ∃ v, Has wr (w.heap.size + 1 + 1) 24 #[.bool leaf, v] ∧ Has wr w.heap.size 24 #[.bool false, .slice none 0 0] ∧ wr.ownsRow w.heap.size 54 5 v k (cellsN ((nodQ leaf q).take k)) ∧ Below w.heap.size w wr
theorem NodA.of_own {w : World} {base n : Nat} {v : Value} {l : List En} (h : w.ownsRow base 54 5 v n (cellsN l)) (hs : ∀ e ∈ l, e.k.length ≤ maxLen ∧ e.d.length ≤ maxLen) : ∃ A c, v = .slice A n c ∧ NodA w A n c l ∧ ∀ a, A = some a → base ≤ a.block := by
  have hn : n = l.length := by have := h.1; rw [cellsN_len] at this; omega
  rcases h.2 with ⟨rfl, rfl⟩ | ⟨g, cap, cur, rfl, h1, h2, h3, h4, h5, h6⟩
  · have := List.eq_nil_of_length_eq_zero hn.symm
    subst this
    exact ⟨none, 0, rfl, NodA.none_ _, fun a h => by cases h⟩
  · refine ⟨_, cap, rfl, ⟨hn, fun hx => ⟨g, 0, rfl, fun j u hj => ?_⟩, h3, h4, hs⟩, fun a h => by injection h with h; subst h; exact h1⟩
    have hjl := (List.getElem?_eq_some_iff.1 hj).1
    have : Has w g 54 cur := h2
    rw [this.cell, Nat.zero_add, ← hj, ← h6, List.getElem?_take, if_pos (by have := h.1; omega)]
    simp

set_option maxRecDepth 100000 in
set_option maxHeartbeats 8000000 in
theorem nRead_true (A : Option Addr) (n c : Nat) (q : List Hd) (w : World) (h : CellsA w A n c q) (hf : Few q) :
    Calls Tryd.prog 35 #[.iface 89 (.agg #[]), .slice A n c] w (ReadN w true (nodQ true q)) := by
  have hmx : Tryd.prog.follows .mixedOrders = true := by kernel_rfl
  obtain ⟨j0, hj, jz0, jz1, jz2⟩ := info_parts einfo
  have hz := zero_node
  have hze := zero_entry
  have hta := assert_leaf
  have HA := Lib.hid h
  have HL := Lib.hid h.len
  have HF := Lib.hid hf
  have hn : n ≤ 1000 := by rw [h.len]; exact hf.1
  have HTX := Lib.hid (fun base P l er w h => tText_any base P l er w h)
  have HTV : Hid (∀ base P l er w, Tk w base P l er → l.length ≤ 1000000 → Calls Tryd.prog 86 #[.agg #[], .pointer (some ⟨P, 0, none⟩)] w (ValEnd base P w (takeE true l er).1 (takeE true l er).2.1 (takeE true l er).2.2)) := Lib.hid (fun base P l er w h hl => nlTake_any base P l er w h hl)
  clear h hf
  go_enter Tryd.func35, Tryd.ntmps35
  go_wp2
  go_loopw [21] (fun i wr => ∃ k : Nat, k ≤ n ∧ i = .int .i64 k ∧ RdSt w true q k wr) (fun i _ => n - (intOf i).toNat)
  case atStart =>
    refine ⟨0, Nat.zero_le _, rfl, .slice none 0 0, ?_, ?_, ⟨rfl, .inl ⟨rfl, rfl⟩⟩, ?_⟩
    · have := Has.made ((w.alloc (.cells #[.bool false, .slice none 0 0] 24)).alloc (.cells #[] 89)) 24 #[.bool true, .slice none 0 0]
      simpa using this
    · exact ((Has.made w 24 #[.bool false, .slice none 0 0]).alloc _).alloc _
    · exact (((Below.refl _ w).alloc (Nat.le_refl _) _).alloc (by simp) _).alloc (by simp; omega) _
  case round =>
    obtain ⟨k, hk, rfl, v, hq1, hq2, hq3, hq4⟩ := hrel
    obtain ⟨Av, cv, rfl, hcv1, hcv2⟩ := own_by hq3
    have Q1 := Lib.hid hq1
    have Q2 := Lib.hid hq2
    have Q3 := Lib.hid hq3
    have Q4 := Lib.hid hq4
    by_cases hlt : k < n
    · have hkl : k < q.length := by rw [← HL.out]; exact hlt
      have hC := HA.out.below Q4.out
      obtain ⟨g, off, rfl, hc⟩ := hC.at hkl
      have hd := hC.hdr hkl
      have hyl := HF.out.2 _ (List.getElem_mem hkl)
      have NX := Lib.hid (cellsN_snoc true hkl)
      have hrd := readE_take true (q[k]).l
      have hfw := stT_len (q[k]).l 0
      clear hC hq1 hq2 hq3 hq4 hcv1 hcv2
      generalize q[k] = y at *
      obtain ⟨ya, yn, yc, yl⟩ := y
      simp only at hc hd hyl hrd hfw NX
      obtain rfl : yn = yl.length := hd.len
      have HT := Lib.hid (Take_any ya yc yl wr (by omega) hd.reads)
      have HT2 := Lib.hid (fun P w1 (h : Tk w1 wr.heap.size P yl 0) => HTX.out wr.heap.size P yl 0 w1 h)
      obtain ⟨s, l1, er1, hst⟩ : ∃ s l1 er1, stT yl 0 = (s, l1, er1) := ⟨_, _, _, rfl⟩
      rw [hst] at HT2 hrd hfw
      simp only at HT2 hrd hfw
      have HT3 := Lib.hid (fun P w1 (h : Tk w1 wr.heap.size P l1 er1) => HTV.out wr.heap.size P l1 er1 w1 h (by omega))
      obtain ⟨en, l2, er2, hst2⟩ : ∃ en l2 er2, takeE true l1 er1 = (en, l2, er2) := ⟨_, _, _, rfl⟩
      rw [hst2] at HT3 hrd
      simp only at HT3 hrd
      rw [hrd] at NX
      clear hst hst2 hkl hd hrd hfw
      obtain ⟨ek, ed, far, sz, pg⟩ := en
      unfold ValEnd at HT3
      simp only [valV, cstV] at HT3
      simp only [cstV, enC] at NX
      generalize (⟨ed.toArray⟩ : ByteArray) = sd at *
      obtain ⟨sk, hsk⟩ : ∃ sk : ByteArray, (⟨s.toArray⟩ : ByteArray) = sk := ⟨_, rfl⟩
      unfold StrEnd at HT2
      rw [hsk] at HT2 NX
      clear hsk
      have hkb : k ≤ 1000 := by omega
      go_wp2_with (first
        | (go_at_call 46; (with_reducible refine HT.out.mono ?_); rintro r1 w1 ⟨P, rfl, t1, b1⟩; have T1 := Lib.hid t1; have B1 := Lib.hid b1; have hPb := tk_base t1; clear t1 b1)
        | (go_at_call 47; (with_reducible refine (HT2.out P _ T1.out).mono ?_); rintro r2 w2 ⟨rfl, t2, g2⟩; have T2 := Lib.hid t2; have B2 := Lib.hid (B1.out.trans (below_only g2 hPb B1.out.size)); clear t2 g2))
      have hX0 : w2.drew.cell? ⟨w.heap.size + 1 + 1, 1, none⟩ = some (.slice Av k cv) := ((Q1.out.below B2.out Q1.out.lt).cell 1)
      rename_i K hK
      refine wp_heldQ (fun w' : World => w'.cell? ⟨w.heap.size + 1 + 1, 1, none⟩ = some (.slice Av k cv)) 8 hmx ?_
      refine wpAnyK_pure (i := 0) (v := .pointer (some ⟨w.heap.size + 1 + 1, 1, none⟩)) rfl (by kernel_rfl) (by kernel_rfl) (by kernel_rfl) (by decide) (fun _ _ _ h => h) (Or.inl ⟨by rfl, ?_⟩) (.inr hX0) ?_
      · intro w6 _
        go_simp
      simp only [Act.put, List.setIfInBounds_toArray, List.set_cons_zero, List.set_cons_succ, List.getElem_toArray, List.getElem_cons_zero]
      refine wpAnyK_take (i := 1) (v := .slice Av k cv) rfl (by kernel_rfl) (by kernel_rfl) (by kernel_rfl) (by kernel_rfl) (by decide) (by kernel_rfl) (fun _ _ _ h => h) (Or.inl ⟨by rfl, ?_⟩) hX0 ?_
      · rintro w6 c1
        go_simp
      simp only [Act.put, List.setIfInBounds_toArray, List.set_cons_zero, List.set_cons_succ, List.getElem_toArray, List.getElem_cons_zero, List.getElem_cons_succ]
      refine wpAnyK_pure (i := 2) (v := .string sk) rfl (by kernel_rfl) (by kernel_rfl) (by kernel_rfl) (by decide) (fun _ _ _ h => h) (Or.inl ⟨by rfl, ?_⟩) (.inr hX0) ?_
      · intro w6 _
        go_simp
      simp only [Act.put, List.setIfInBounds_toArray, List.set_cons_zero, List.set_cons_succ, List.getElem_toArray, List.getElem_cons_zero, List.getElem_cons_succ]
      refine wpAnyK_pure (i := 3) (v := .iface 89 (.agg #[])) rfl (by kernel_rfl) (by kernel_rfl) (by kernel_rfl) (by decide) (fun _ _ _ h => h) (Or.inl ⟨by rfl, ?_⟩) (.inr hX0) ?_
      · intro w6 _
        go_simp
      simp only [Act.put, List.setIfInBounds_toArray, List.set_cons_zero, List.set_cons_succ, List.getElem_toArray, List.getElem_cons_zero, List.getElem_cons_succ]
      refine wpAnyK_pure (i := 4) (v := .pointer (some ⟨P, 0, none⟩)) rfl (by kernel_rfl) (by kernel_rfl) (by kernel_rfl) (by decide) (fun _ _ _ h => h) (Or.inl ⟨by rfl, ?_⟩) (.inr hX0) ?_
      · intro w6 _
        go_simp
      simp only [Act.put, List.setIfInBounds_toArray, List.set_cons_zero, List.set_cons_succ, List.getElem_toArray, List.getElem_cons_zero, List.getElem_cons_succ]
      refine wpAnyK_one (i := 5) (by kernel_rfl) rfl (fun K5 hK5 => ?_)
      go_simp
      go_invoke
      go_simp
      go_at_call 86
      (with_reducible refine (HT3.out P _ (T2.out.below (Below.refl _ _).drew)).mono ?_)
      rintro r3 w3 ⟨rfl, t3, g3⟩
      have B3 : Below wr.heap.size wr w3 := B2.out.drew.trans (below_only g3 hPb B2.out.drew.size)
      have X3 : w3.cell? ⟨w.heap.size + 1 + 1, 1, none⟩ = some (.slice Av k cv) := (Q1.out.below B3 Q1.out.lt).cell 1
      clear t3 g3
      refine hK5.out _ _ (.inr X3) ?_
      clear hK5 K5
      refine wpAnyK_one (i := 6) (by kernel_rfl) rfl (fun K5 hK5 => ?_)
      go_simp
      refine hK5.out _ _ (.inr X3) ?_
      clear hK5 K5
      refine wpAnyK_one (i := 7) (by kernel_rfl) rfl (fun K5 hK5 => ?_)
      go_simp
      obtain ⟨w4, hw4⟩ : ∃ w4, w3.alloc (.cells #[.string sk, .string sd, .bool far, .int .i64 sz, .int .i64 pg] 54) = w4 := ⟨_, rfl⟩
      try rw [hw4]
      have B4 : Below wr.heap.size wr w4 := hw4 ▸ B3.alloc B3.size _
      have X4 : w4.cell? ⟨w.heap.size + 1 + 1, 1, none⟩ = some (.slice Av k cv) := (Q1.out.below B4 Q1.out.lt).cell 1
      have O4 := ceOwnBelow Q3.out B4
      have LS := hw4 ▸ lies_all w3 [.string sk, .string sd, .bool far, .int .i64 sz, .int .i64 pg] 54
      have BT : Below w.heap.size w w4 := below_step Q4.out B4
      refine hK5.out _ _ (.inr X4) ?_
      clear hK5 K5
      refine wpAnyK_one (i := 8) (by kernel_rfl) rfl (fun K5 hK5 => ?_)
      refine step_append_lies _ rfl _ _ 22 rfl w.heap.size 54 j0 _ 5 56 Tryd.underlying22 hj jz0 jz1 jz2 rfl (by decide) _ k _ rfl O4 ⟨w3.heap.size, 0, none⟩ 1 1 [.string sk, .string sd, .bool far, .int .i64 sz, .int .i64 pg] rfl rfl LS (by intro u hu; simp at hu; rcases hu with rfl | rfl | rfl | rfl | rfl <;> rfl) (by decide) (by unfold maxLen; omega) (by omega) BT.size _ rfl ?_
      intro gn capn w5 h7 h8 h9 h10
      have XN := (Q1.out.below B4 Q1.out.lt).kept_own O4 (by decide) h8
      have XB := Lib.hid ((Q2.out.below B4 Q2.out.lt).kept_own O4 (by decide) h8)
      have B5 := Lib.hid (below_own8 BT h8 O4 BT.size)
      have O5 := Lib.hid h7
      have cn := XN.cell 1
      have fn := XN.free 1
      have XN := Lib.hid XN
      clear h7 h8 h9 h10
      refine hK5.out _ _ (.inl (by kernel_rfl)) ?_
      clear hK5 K5
      simp only [Act.put, List.setIfInBounds_toArray, List.set_cons_zero, List.set_cons_succ, List.getElem_toArray, List.getElem_cons_zero, List.getElem_cons_succ]
      refine wpAnyK_pure (i := 9) (v := .pointer (some ⟨w.heap.size + 1 + 1, 1, none⟩)) rfl (by kernel_rfl) (by kernel_rfl) (by kernel_rfl) (by decide) (fun _ _ _ h => h) (Or.inl ⟨by rfl, ?_⟩) (.inl (by kernel_rfl)) ?_
      · intro w6 _
        go_simp
      simp only [Act.put, List.setIfInBounds_toArray, List.set_cons_zero, List.set_cons_succ, List.getElem_toArray, List.getElem_cons_zero, List.getElem_cons_succ]
      refine wpAnyK_one (i := 10) (by kernel_rfl) rfl (fun K5 hK5 => ?_)
      go_simp
      refine hK5.out _ _ (.inl (by kernel_rfl)) ?_
      clear hK5 K5
      refine wpAnyK_done (by kernel_rfl) ?_ _
      refine hK _ _ ?_
      go_wp2
      go_roundw
      case rel =>
        refine ⟨k + 1, by omega, by go_num, _, XN.out.store 1 _, XB.out.away (p := ⟨w.heap.size + 1 + 1, 1, none⟩) (by show w.heap.size ≠ w.heap.size + 1 + 1; omega) _, ?_, B5.out.setCell (p := ⟨w.heap.size + 1 + 1, 1, none⟩) (by show w.heap.size ≤ w.heap.size + 1 + 1; omega) _⟩
        rw [NX.out]
        exact own_cell O5.out XN.out (by decide) 1 _
      case measure => simp [intOf]; omega
    · obtain rfl : k = n := by omega
      have e : (nodQ true q).take k = nodQ true q := List.take_of_length_le (by rw [nodQ, List.length_map, ← HL.out]; exact Nat.le_refl _)
      have HS : Hid (∀ e ∈ nodQ true q, e.k.length ≤ maxLen ∧ e.d.length ≤ maxLen) := Lib.hid (by
        intro e he
        obtain ⟨x, hx, rfl⟩ := List.mem_map.1 he
        have h1 := HF.out.2 x hx
        have h2 := readE_few true x.l
        unfold maxLen
        omega)
      rw [e] at Q3
      have d0 := hq1.cell 0
      have d1 := hq1.cell 1
      have f0 := hq2.free 0
      have f1 := hq2.free 1
      have h0 := hq2.cell 0
      have h1 := hq2.cell 1
      clear hq1 hq2 hq3 hq4 e
      obtain ⟨w3, hw3⟩ : ∃ w3 : World, w3 = wr := ⟨_, rfl⟩
      subst hw3
      go_wp2
      have k1 := (Q2.out.store 0 (.bool true)).store 1 (.slice Av k cv)
      have q0 := k1.cell 0
      have q1 := k1.cell 1
      refine ⟨rfl, .agg #[.bool true, .slice Av k cv], ?_, Av, k, cv, rfl, ?_, ?_, ?_⟩
      · simp at q0 q1
        simp [results, Tryd.f35, go_sem, q0, q1]
      · obtain ⟨A2, c2, hv2, hN, hlo⟩ := NodA.of_own (own_cell (own_cell Q3.out Q2.out (by decide) 0 (.bool true)) (Q2.out.store 0 (.bool true)) (by decide) 1 (.slice Av k cv)) HS.out
        injection hv2 with e1 e2 e3
        subst e1 e3
        exact hN
      · exact (Q4.out.setCell (p := ⟨w.heap.size, 0, none⟩) (by show w.heap.size ≤ w.heap.size; omega) _).setCell (p := ⟨w.heap.size, 1, none⟩) (by show w.heap.size ≤ w.heap.size; omega) _
      · obtain ⟨A2, c2, hv2, hN, hlo⟩ := NodA.of_own Q3.out HS.out
        injection hv2 with e1 e2 e3
        subst e1 e3
        exact hlo

set_option maxRecDepth 100000 in
set_option maxHeartbeats 8000000 in
theorem nRead_false (A : Option Addr) (n c : Nat) (q : List Hd) (w : World) (h : CellsA w A n c q) (hf : Few q) :
    Calls Tryd.prog 35 #[.iface 90 (.agg #[]), .slice A n c] w (ReadN w false (nodQ false q)) := by
  have hmx : Tryd.prog.follows .mixedOrders = true := by kernel_rfl
  obtain ⟨j0, hj, jz0, jz1, jz2⟩ := info_parts einfo
  have hz := zero_node
  have hze := zero_entry
  have hta := assert_branch
  have HA := Lib.hid h
  have HL := Lib.hid h.len
  have HF := Lib.hid hf
  have hn : n ≤ 1000 := by rw [h.len]; exact hf.1
  have HTX := Lib.hid (fun base P l er w h => tText_any base P l er w h)
  have HTV : Hid (∀ base P l er w, Tk w base P l er → l.length ≤ 1000000 → Calls Tryd.prog 101 #[.agg #[], .pointer (some ⟨P, 0, none⟩)] w (ValEnd base P w (takeE false l er).1 (takeE false l er).2.1 (takeE false l er).2.2)) := Lib.hid (fun base P l er w h hl => nbTake_any2 base P l er w h)
  clear h hf
  go_enter Tryd.func35, Tryd.ntmps35
  go_wp2
  go_loopw [21] (fun i wr => ∃ k : Nat, k ≤ n ∧ i = .int .i64 k ∧ RdSt w false q k wr) (fun i _ => n - (intOf i).toNat)
  case atStart =>
    refine ⟨0, Nat.zero_le _, rfl, .slice none 0 0, ?_, ?_, ⟨rfl, .inl ⟨rfl, rfl⟩⟩, ?_⟩
    · have := Has.made ((w.alloc (.cells #[.bool false, .slice none 0 0] 24)).alloc (.cells #[] 89)) 24 #[.bool false, .slice none 0 0]
      simpa using this
    · exact ((Has.made w 24 #[.bool false, .slice none 0 0]).alloc _).alloc _
    · exact (((Below.refl _ w).alloc (Nat.le_refl _) _).alloc (by simp) _).alloc (by simp; omega) _
  case round =>
    obtain ⟨k, hk, rfl, v, hq1, hq2, hq3, hq4⟩ := hrel
    obtain ⟨Av, cv, rfl, hcv1, hcv2⟩ := own_by hq3
    have Q1 := Lib.hid hq1
    have Q2 := Lib.hid hq2
    have Q3 := Lib.hid hq3
    have Q4 := Lib.hid hq4
    by_cases hlt : k < n
    · have hkl : k < q.length := by rw [← HL.out]; exact hlt
      have hC := HA.out.below Q4.out
      obtain ⟨g, off, rfl, hc⟩ := hC.at hkl
      have hd := hC.hdr hkl
      have hyl := HF.out.2 _ (List.getElem_mem hkl)
      have NX := Lib.hid (cellsN_snoc false hkl)
      have hrd := readE_take false (q[k]).l
      have hfw := stT_len (q[k]).l 0
      clear hC hq1 hq2 hq3 hq4 hcv1 hcv2
      generalize q[k] = y at *
      obtain ⟨ya, yn, yc, yl⟩ := y
      simp only at hc hd hyl hrd hfw NX
      obtain rfl : yn = yl.length := hd.len
      have HT := Lib.hid (Take_any ya yc yl wr (by omega) hd.reads)
      have HT2 := Lib.hid (fun P w1 (h : Tk w1 wr.heap.size P yl 0) => HTX.out wr.heap.size P yl 0 w1 h)
      obtain ⟨s, l1, er1, hst⟩ : ∃ s l1 er1, stT yl 0 = (s, l1, er1) := ⟨_, _, _, rfl⟩
      rw [hst] at HT2 hrd hfw
      simp only at HT2 hrd hfw
      have HT3 := Lib.hid (fun P w1 (h : Tk w1 wr.heap.size P l1 er1) => HTV.out wr.heap.size P l1 er1 w1 h (by omega))
      obtain ⟨en, l2, er2, hst2⟩ : ∃ en l2 er2, takeE false l1 er1 = (en, l2, er2) := ⟨_, _, _, rfl⟩
      rw [hst2] at HT3 hrd
      simp only at HT3 hrd
      rw [hrd] at NX
      clear hst hst2 hkl hd hrd hfw
      obtain ⟨ek, ed, far, sz, pg⟩ := en
      unfold ValEnd at HT3
      simp only [valV, cstV] at HT3
      simp only [cstV, enC] at NX
      generalize (⟨ed.toArray⟩ : ByteArray) = sd at *
      obtain ⟨sk, hsk⟩ : ∃ sk : ByteArray, (⟨s.toArray⟩ : ByteArray) = sk := ⟨_, rfl⟩
      unfold StrEnd at HT2
      rw [hsk] at HT2 NX
      clear hsk
      have hkb : k ≤ 1000 := by omega
      go_wp2_with (first
        | (go_at_call 46; (with_reducible refine HT.out.mono ?_); rintro r1 w1 ⟨P, rfl, t1, b1⟩; have T1 := Lib.hid t1; have B1 := Lib.hid b1; have hPb := tk_base t1; clear t1 b1)
        | (go_at_call 47; (with_reducible refine (HT2.out P _ T1.out).mono ?_); rintro r2 w2 ⟨rfl, t2, g2⟩; have T2 := Lib.hid t2; have B2 := Lib.hid (B1.out.trans (below_only g2 hPb B1.out.size)); clear t2 g2))
      have hX0 : w2.drew.cell? ⟨w.heap.size + 1 + 1, 1, none⟩ = some (.slice Av k cv) := ((Q1.out.below B2.out Q1.out.lt).cell 1)
      rename_i K hK
      refine wp_heldQ (fun w' : World => w'.cell? ⟨w.heap.size + 1 + 1, 1, none⟩ = some (.slice Av k cv)) 8 hmx ?_
      refine wpAnyK_pure (i := 0) (v := .pointer (some ⟨w.heap.size + 1 + 1, 1, none⟩)) rfl (by kernel_rfl) (by kernel_rfl) (by kernel_rfl) (by decide) (fun _ _ _ h => h) (Or.inl ⟨by rfl, ?_⟩) (.inr hX0) ?_
      · intro w6 _
        go_simp
      simp only [Act.put, List.setIfInBounds_toArray, List.set_cons_zero, List.set_cons_succ, List.getElem_toArray, List.getElem_cons_zero]
      refine wpAnyK_take (i := 1) (v := .slice Av k cv) rfl (by kernel_rfl) (by kernel_rfl) (by kernel_rfl) (by kernel_rfl) (by decide) (by kernel_rfl) (fun _ _ _ h => h) (Or.inl ⟨by rfl, ?_⟩) hX0 ?_
      · rintro w6 c1
        go_simp
      simp only [Act.put, List.setIfInBounds_toArray, List.set_cons_zero, List.set_cons_succ, List.getElem_toArray, List.getElem_cons_zero, List.getElem_cons_succ]
      refine wpAnyK_pure (i := 2) (v := .string sk) rfl (by kernel_rfl) (by kernel_rfl) (by kernel_rfl) (by decide) (fun _ _ _ h => h) (Or.inl ⟨by rfl, ?_⟩) (.inr hX0) ?_
      · intro w6 _
        go_simp
      simp only [Act.put, List.setIfInBounds_toArray, List.set_cons_zero, List.set_cons_succ, List.getElem_toArray, List.getElem_cons_zero, List.getElem_cons_succ]
      refine wpAnyK_pure (i := 3) (v := .iface 90 (.agg #[])) rfl (by kernel_rfl) (by kernel_rfl) (by kernel_rfl) (by decide) (fun _ _ _ h => h) (Or.inl ⟨by rfl, ?_⟩) (.inr hX0) ?_
      · intro w6 _
        go_simp
      simp only [Act.put, List.setIfInBounds_toArray, List.set_cons_zero, List.set_cons_succ, List.getElem_toArray, List.getElem_cons_zero, List.getElem_cons_succ]
      refine wpAnyK_pure (i := 4) (v := .pointer (some ⟨P, 0, none⟩)) rfl (by kernel_rfl) (by kernel_rfl) (by kernel_rfl) (by decide) (fun _ _ _ h => h) (Or.inl ⟨by rfl, ?_⟩) (.inr hX0) ?_
      · intro w6 _
        go_simp
      simp only [Act.put, List.setIfInBounds_toArray, List.set_cons_zero, List.set_cons_succ, List.getElem_toArray, List.getElem_cons_zero, List.getElem_cons_succ]
      refine wpAnyK_one (i := 5) (by kernel_rfl) rfl (fun K5 hK5 => ?_)
      go_simp
      go_invoke
      go_simp
      go_at_call 101
      (with_reducible refine (HT3.out P _ (T2.out.below (Below.refl _ _).drew)).mono ?_)
      rintro r3 w3 ⟨rfl, t3, g3⟩
      have B3 : Below wr.heap.size wr w3 := B2.out.drew.trans (below_only g3 hPb B2.out.drew.size)
      have X3 : w3.cell? ⟨w.heap.size + 1 + 1, 1, none⟩ = some (.slice Av k cv) := (Q1.out.below B3 Q1.out.lt).cell 1
      clear t3 g3
      refine hK5.out _ _ (.inr X3) ?_
      clear hK5 K5
      refine wpAnyK_one (i := 6) (by kernel_rfl) rfl (fun K5 hK5 => ?_)
      go_simp
      refine hK5.out _ _ (.inr X3) ?_
      clear hK5 K5
      refine wpAnyK_one (i := 7) (by kernel_rfl) rfl (fun K5 hK5 => ?_)
      go_simp
      obtain ⟨w4, hw4⟩ : ∃ w4, w3.alloc (.cells #[.string sk, .string sd, .bool far, .int .i64 sz, .int .i64 pg] 54) = w4 := ⟨_, rfl⟩
      try rw [hw4]
      have B4 : Below wr.heap.size wr w4 := hw4 ▸ B3.alloc B3.size _
      have X4 : w4.cell? ⟨w.heap.size + 1 + 1, 1, none⟩ = some (.slice Av k cv) := (Q1.out.below B4 Q1.out.lt).cell 1
      have O4 := ceOwnBelow Q3.out B4
      have LS := hw4 ▸ lies_all w3 [.string sk, .string sd, .bool far, .int .i64 sz, .int .i64 pg] 54
      have BT : Below w.heap.size w w4 := below_step Q4.out B4
      refine hK5.out _ _ (.inr X4) ?_
      clear hK5 K5
      refine wpAnyK_one (i := 8) (by kernel_rfl) rfl (fun K5 hK5 => ?_)
      refine step_append_lies _ rfl _ _ 22 rfl w.heap.size 54 j0 _ 5 56 Tryd.underlying22 hj jz0 jz1 jz2 rfl (by decide) _ k _ rfl O4 ⟨w3.heap.size, 0, none⟩ 1 1 [.string sk, .string sd, .bool far, .int .i64 sz, .int .i64 pg] rfl rfl LS (by intro u hu; simp at hu; rcases hu with rfl | rfl | rfl | rfl | rfl <;> rfl) (by decide) (by unfold maxLen; omega) (by omega) BT.size _ rfl ?_
      intro gn capn w5 h7 h8 h9 h10
      have XN := (Q1.out.below B4 Q1.out.lt).kept_own O4 (by decide) h8
      have XB := Lib.hid ((Q2.out.below B4 Q2.out.lt).kept_own O4 (by decide) h8)
      have B5 := Lib.hid (below_own8 BT h8 O4 BT.size)
      have O5 := Lib.hid h7
      have cn := XN.cell 1
      have fn := XN.free 1
      have XN := Lib.hid XN
      clear h7 h8 h9 h10
      refine hK5.out _ _ (.inl (by kernel_rfl)) ?_
      clear hK5 K5
      simp only [Act.put, List.setIfInBounds_toArray, List.set_cons_zero, List.set_cons_succ, List.getElem_toArray, List.getElem_cons_zero, List.getElem_cons_succ]
      refine wpAnyK_pure (i := 9) (v := .pointer (some ⟨w.heap.size + 1 + 1, 1, none⟩)) rfl (by kernel_rfl) (by kernel_rfl) (by kernel_rfl) (by decide) (fun _ _ _ h => h) (Or.inl ⟨by rfl, ?_⟩) (.inl (by kernel_rfl)) ?_
      · intro w6 _
        go_simp
      simp only [Act.put, List.setIfInBounds_toArray, List.set_cons_zero, List.set_cons_succ, List.getElem_toArray, List.getElem_cons_zero, List.getElem_cons_succ]
      refine wpAnyK_one (i := 10) (by kernel_rfl) rfl (fun K5 hK5 => ?_)
      go_simp
      refine hK5.out _ _ (.inl (by kernel_rfl)) ?_
      clear hK5 K5
      refine wpAnyK_done (by kernel_rfl) ?_ _
      refine hK _ _ ?_
      go_wp2
      go_roundw
      case rel =>
        refine ⟨k + 1, by omega, by go_num, _, XN.out.store 1 _, XB.out.away (p := ⟨w.heap.size + 1 + 1, 1, none⟩) (by show w.heap.size ≠ w.heap.size + 1 + 1; omega) _, ?_, B5.out.setCell (p := ⟨w.heap.size + 1 + 1, 1, none⟩) (by show w.heap.size ≤ w.heap.size + 1 + 1; omega) _⟩
        rw [NX.out]
        exact own_cell O5.out XN.out (by decide) 1 _
      case measure => simp [intOf]; omega
    · obtain rfl : k = n := by omega
      have e : (nodQ false q).take k = nodQ false q := List.take_of_length_le (by rw [nodQ, List.length_map, ← HL.out]; exact Nat.le_refl _)
      have HS : Hid (∀ e ∈ nodQ false q, e.k.length ≤ maxLen ∧ e.d.length ≤ maxLen) := Lib.hid (by
        intro e he
        obtain ⟨x, hx, rfl⟩ := List.mem_map.1 he
        have h1 := HF.out.2 x hx
        have h2 := readE_few false x.l
        unfold maxLen
        omega)
      rw [e] at Q3
      have d0 := hq1.cell 0
      have d1 := hq1.cell 1
      have f0 := hq2.free 0
      have f1 := hq2.free 1
      have h0 := hq2.cell 0
      have h1 := hq2.cell 1
      clear hq1 hq2 hq3 hq4 e
      obtain ⟨w3, hw3⟩ : ∃ w3 : World, w3 = wr := ⟨_, rfl⟩
      subst hw3
      go_wp2
      have k1 := (Q2.out.store 0 (.bool false)).store 1 (.slice Av k cv)
      have q0 := k1.cell 0
      have q1 := k1.cell 1
      refine ⟨rfl, .agg #[.bool false, .slice Av k cv], ?_, Av, k, cv, rfl, ?_, ?_, ?_⟩
      · simp at q0 q1
        simp [results, Tryd.f35, go_sem, q0, q1]
      · obtain ⟨A2, c2, hv2, hN, hlo⟩ := NodA.of_own (own_cell (own_cell Q3.out Q2.out (by decide) 0 (.bool false)) (Q2.out.store 0 (.bool false)) (by decide) 1 (.slice Av k cv)) HS.out
        injection hv2 with e1 e2 e3
        subst e1 e3
        exact hN
      · exact (Q4.out.setCell (p := ⟨w.heap.size, 0, none⟩) (by show w.heap.size ≤ w.heap.size; omega) _).setCell (p := ⟨w.heap.size, 1, none⟩) (by show w.heap.size ≤ w.heap.size; omega) _
      · obtain ⟨A2, c2, hv2, hN, hlo⟩ := NodA.of_own Q3.out HS.out
        injection hv2 with e1 e2 e3
        subst e1 e3
        exact hlo

theorem nRead_any (leaf : Bool) (A : Option Addr) (n c : Nat) (q : List Hd) (w : World) (h : CellsA w A n c q) (hf : Few q) :
    Calls Tryd.prog 35 #[shpV leaf, .slice A n c] w (ReadN w leaf (nodQ leaf q)) := by
  cases leaf
  · exact nRead_false A n c q w h hf
  · exact nRead_true A n c q w h hf

end Go.Proofs.YtnponjdnjkegmaaDoor
