/- Package disk: what settling comes to in memory: no statement. -/
import Derived.Test.YthbchloghbfnmaaDww
import Derived.Test.YthbchloghbfnmaaDbi
namespace Go.Proofs.Ythbchloghbfnmaa
open Go.RowKit
set_option linter.unusedVariables false

theorem wp_heldHQ {P : Program} {id : Nat} {ops : Array Oper} {Q : Exit → Act → World → Prop} {a : Act} {w : World} (S : World → Prop) (hm : P.follows .mixedOrders = true)
    (h : wpAnyH P .any ops (Runs (Q .normal)) S ops.size (Array.replicate ops.size false) a w.drew) : (Code.region id ops true).wp P Q a w :=
  wp_mono (Q := Runs (Q .normal)) (wp_region_held hm h) (fun e a w h => by cases e <;> first | exact h | exact False.elim h)
def synR (K : Nat → Bool) (r : Rg) (k : Nat) : Rg := { r with syn := setK K 0 (r.loose.take k) r.syn }
section
variable {T : Tg} {d A i m1 m2 : Nat} {v : Value} {r : Rg}
theorem Ar.below {w w' : World} (h : Ar w T d A i m1 m2 v r) (hA : ∃ cs, Has w A 72 cs) (hb : Below w.heap.size w w') : Ar w' T d A i m1 m2 v r := by
  obtain ⟨cs, hA⟩ := hA
  exact h.keep (fun j _ => cell_heap (hb.block A hA.lt)) (fun x j _ _ hlt => ⟨hb.block x hlt, rfl⟩) rfl
theorem Ar.sput {w w' : World} {x : Wr} (h : Ar w T d A i m1 m2 v r) (hA : ∃ cs, Has w A 72 cs) (hlo : ∀ x t, T x = some t → x < w.heap.size) (hx : x.2.length = 128)
    (hM : MapAt w' m1 (putM (fun k => (r.syn k).map pageV) x.1 (pageV x.2))) (g : w.grownBy w' (some m1)) :
    Ar w' T d A i m1 m2 v { r with syn := putS r.syn x } ∧ Nx T d A i w T w' := by
  obtain ⟨cs, hA⟩ := hA
  have hAm : A ≠ m1 := fun e => h.p1.apart hA e.symm
  have hn : ∀ {x k : Nat}, T x = some (d, k) → k ≠ 3 * i + 2 → some x ≠ some m1 := fun {x k} hx hk e => by
    injection e with e
    rw [e, h.t1] at hx
    injection hx with hx
    injection hx with _ hx
    exact hk hx.symm
  have hA' : w'.heap[A]? = w.heap[A]? := g.block A hA.lt (fun e => hAm (by injection e))
  have hc : ∀ j, w'.cell? ⟨A, i * 6 + j, none⟩ = w.cell? ⟨A, i * 6 + j, none⟩ := fun j => cell_heap hA'
  refine ⟨⟨(hc 0).trans h.c0, (hc 1).trans h.c1, (hc 2).trans h.c2, (hc 3).trans h.c3, (hc 4).trans h.c4, (hc 5).trans h.c5, h.ta, h.t1, h.t2, h.t3, ?_, h.p2.keep (g.block m2 h.p2.lt (hn h.t2 (by omega))), own_keep h.row (fun y hy => g.block y (own_lt h.row hy) (hn (h.t3 y hy) (by omega))), ⟨h.ok.pos, h.ok.most, h.ok.loose, fun k l hk => ?_, h.ok.left0, h.ok.left1⟩⟩, Nx.grown (j := 0) g (by omega) h.t1 h.ta hlo⟩
  · have e : putM (fun k => (r.syn k).map pageV) x.1 (pageV x.2) = fun k => (putS r.syn x k).map pageV := by
      funext k
      simp only [putM, putS]
      split <;> rfl
    rw [e] at hM
    exact hM
  · simp only [putS] at hk
    split at hk
    · injection hk with hk
      rw [← hk]
      exact hx
    · exact h.ok.syn k l hk
theorem synR_step {K : Nat → Bool} {k : Nat} {x : Wr} (hx : r.loose[k]? = some x) : synR K r (k + 1) = if K k then { (synR K r k) with syn := putS (synR K r k).syn x } else synR K r k := by
  have hk := (List.getElem?_eq_some_iff.1 hx).1
  have e : r.loose.take (k + 1) = r.loose.take k ++ [x] := by
    rw [List.take_add_one, hx]
    rfl
  unfold synR
  rw [e, setK_snoc]
  have hl : (r.loose.take k).length = k := by simp; omega
  rw [hl, Nat.zero_add]
  split <;> rfl
theorem synR_zero {K : Nat → Bool} : synR K r 0 = r := by simp [synR, setK]
theorem synR_all {K : Nat → Bool} {n : Nat} (hn : n = r.loose.length) : { (synR K r n) with loose := [] } = setR K r := by
  subst hn
  simp [synR, setR]
/-- The end: nothing is loose. -/
theorem Ar.cleared {w w' : World} (h : Ar w T d A i m1 m2 v r) (hA : ∃ cs, Has w A 72 cs) (hlo : ∀ x t, T x = some t → x < w.heap.size) (hM : MapAt w' m2 noMap) (g : (w.setCell ⟨A, i * 6 + 2, none⟩ (.slice none 0 0)).grownBy w' (some m2)) :
    Ar w' T d A i m1 m2 (.slice none 0 0) { r with loose := [] } ∧ Nx T d A i w T w' := by
  obtain ⟨cs, hA⟩ := hA
  have hA1 := hA.store (i * 6 + 2) (.slice none 0 0)
  have hs : (w.setCell ⟨A, i * 6 + 2, none⟩ (.slice none 0 0)).heap.size = w.heap.size := setCell_hsize _ _ _
  have hAm : A ≠ m2 := fun e => h.p2.apart hA e.symm
  have hA2 := hA1.grown g (fun e => hAm (by injection e))
  have m1A : m1 ≠ A := h.p1.apart hA
  have mm : m1 ≠ m2 := fun e => by
    have := h.t1
    rw [e, h.t2] at this
    injection this with this
    injection this with _ this
    omega
  have hk : ∀ j, j ≠ 2 → w'.cell? ⟨A, i * 6 + j, none⟩ = w.cell? ⟨A, i * 6 + j, none⟩ := fun j hj => by
    rw [hA2.cell, hA.cell, Array.getElem?_setIfInBounds, if_neg (by omega)]
  refine ⟨⟨(hk 0 (by omega)).trans h.c0, (hk 1 (by omega)).trans h.c1, ?_, (hk 3 (by omega)).trans h.c3, (hk 4 (by omega)).trans h.c4, (hk 5 (by omega)).trans h.c5, h.ta, h.t1, h.t2, fun y hy => (by cases hy),
    h.p1.keep ((g.block m1 (by rw [hs]; exact h.p1.lt) (fun e => mm (by injection e))).trans (setCell_heap_other w _ _ m1 m1A)), ?_, World.ownsRow_nil _ _ _ _, ⟨h.ok.pos, h.ok.most, by simp, h.ok.syn, h.ok.left0, h.ok.left1⟩⟩, ?_⟩
  · have := h.c2
    rw [hA.cell] at this
    rw [hA2.cell, Array.getElem?_setIfInBounds, if_pos rfl, if_pos (Array.getElem?_eq_some_iff.1 this).1]
  · have e : noMap = fun k => (lastFrom 0 [] k).map (fun (j : Nat) => Value.int .i64 (j : Int)) := by
      funext k
      rfl
    rw [e] at hM
    exact hM
  · exact (Nx.set (by omega) _ hlo).trans (Nx.grown (j := 1) g (by omega) h.t2 h.ta (fun x t ht => by rw [hs]; exact hlo x t ht))
theorem row_range_at {w : World} {l : List Wr} {g cap n : Nat} (h : w.ownsRow 0 91 129 (.slice (some ⟨g, 0, none⟩) n cap) l.length (cellsL l)) (hl : ∀ x ∈ l, x.2.length = 128) {k : Nat} {x : Wr} (hk : l[k]? = some x) : w.rangeAt g (k * 129) (cellsW x) := by
  obtain ⟨g', cap', hv, hr⟩ := row_range h hl hk
  injection hv with hv
  injection hv with hv
  injection hv with hv
  subst hv
  exact hr
theorem load_write {w : World} {b o : Nat} {x : Wr} (hl : x.2.length = 128) (h : w.rangeAt b o (cellsW x)) : (Instr.loadAt 91 (.pointer (some ⟨b, o, none⟩))).run Try.prog w = .ok (.agg (cellsW x).toArray) w :=
  run_loadAt_mid w b o 91 (cellsW x) _ h Try.underlying91 rfl (by rw [cellsW_len hl]; exact size_write)
theorem one_cellsW (x : Wr) : ∀ u ∈ cellsW x, u.oneCell' = true := by
  intro u hu
  unfold cellsW at hu
  simp only [List.mem_cons] at hu
  rcases hu with rfl | hu
  · rfl
  · exact one_byteV _ u hu
theorem store_write (w : World) {x : Wr} (hl : x.2.length = 128) {zw : Array Value} (hz : zw.size = 129) :
    (Instr.storeAt 91 (.pointer (some ⟨w.heap.size, 0, none⟩)) (.agg (cellsW x).toArray)).run Try.prog (w.alloc (.cells zw 91)) = .ok () (w.alloc (.cells (cellsW x).toArray 91)) :=
  run_storeAt_new w 91 _ _ (by rw [show (cellsW x).toArray.size = 129 by simp [cellsW_len hl]]; exact size_write) (by simp [cellsW_len hl, hz]) (all_oneCell_toArray (one_cellsW x))
theorem zero_write : ∀ w, (zeroValue 91).run Try.prog w = .ok (.agg (.int .i64 0 :: zeros.map byteV).toArray) w :=
  (zero_of_info (show (Try.prog.info? 91).map (fun i => (i.zero, i.size)) = some (some (.agg (.int .i64 0 :: zeros.map byteV).toArray), 129) by kernel_rfl)).1
theorem range_made (w : World) (x : Wr) : (w.alloc (.cells (cellsW x).toArray 91)).rangeAt w.heap.size 0 (cellsW x) := fun j u hj => by
  have := (Has.made w 91 (cellsW x).toArray).cell (0 + j)
  exact this.trans (by simpa using hj)
def allK (_ : Nat) : Bool := true
theorem sync1_any (k : Nat) (w : World) : Calls Try.prog 39 #[.int .i64 (k : Int)] w fun e w' => e = .returned (.bool (allK k)) ∧ w = w' := by
  go_enter Try.func39, Try.ntmps39
  go_wp2
  go_ret
  exact ⟨rfl, rfl⟩
theorem crash1_any (s : List UInt8) (B k : Nat) (w : World) (hB : Has w B 9 #[.string ⟨s.toArray⟩]) (hs : s.length ≤ 9223372036854775807) (hk : k ≤ 1000000) : Calls Try.prog 42 #[.int .i64 (k : Int), .pointer (some ⟨B, 0, none⟩)] w fun e w' => e = .returned (.bool (bitS s k)) ∧ w = w' := by
  have c := hB.cell0
  have HQ := Lib.hid (isSet_any s k w hs hk)
  generalize bitS s k = b at HQ ⊢
  go_enter Try.func42, Try.ntmps42
  go_wp2_with (go_at_call 43; (with_reducible refine HQ.out.mono ?_); rintro e w2 ⟨rfl, rfl⟩)
  go_ret
  exact ⟨rfl, rfl⟩
end

end Go.Proofs.Ythbchloghbfnmaa
