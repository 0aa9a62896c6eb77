import Derived.Test.YtpaklhifnndeoaaJ20
import Derived.Test.YtpaklhifnndeoaaJTpi
/- Of a claim's texts, joined: Tsc Tpj. No statement but in the last. -/
section
namespace Go.Proofs.Ytpaklhifnndeoaa
open Go.RowKit
set_option linter.unusedVariables false

def kdP (x : PA) : List UInt8 × List UInt8 := ((cP x).k, (cP x).d)
def ownF (own : List PA) (x : PA) : List PA := if own.all (fun y => y.k != x.k) = true then own ++ [x] else own
def ownP (l : List PA) : List PA := l.foldl ownF []
theorem ownP_step {l : List PA} {i : Nat} {x : PA} (h : l[i]? = some x) : ownP (l.take (i + 1)) = ownF (ownP (l.take i)) x := by
  unfold ownP
  rw [List.take_add_one, h, Option.toList_some, List.foldl_append]
  rfl
theorem ownF_mem {own : List PA} {x y : PA} (h : y ∈ ownF own x) : y = x ∨ y ∈ own := by
  unfold ownF at h
  split at h
  · rcases List.mem_append.1 h with h | h
    · exact .inr h
    · exact .inl (List.mem_singleton.1 h)
  · exact .inr h
theorem foldl_mem : ∀ (l : List PA) (o : List PA) {y : PA}, y ∈ l.foldl ownF o → y ∈ o ∨ y ∈ l
  | [], o, y, h => .inl h
  | x :: l, o, y, h => by
    rcases foldl_mem l (ownF o x) h with h | h
    · rcases ownF_mem h with rfl | h
      · exact .inr (List.mem_cons_self)
      · exact .inl h
    · exact .inr (List.mem_cons_of_mem _ h)
theorem ownP_mem {l : List PA} {y : PA} (h : y ∈ ownP l) : y ∈ l := by
  rcases foldl_mem l [] h with h | h
  · cases h
  · exact h
theorem ownF_nodup {own : List PA} {x : PA} (h : (own.map (fun y => y.k)).Nodup) : ((ownF own x).map (fun y => y.k)).Nodup := by
  unfold ownF
  split
  · rename_i ha
    rw [List.map_append]
    refine List.nodup_append.2 ⟨h, by simp, ?_⟩
    intro a ha' b hb
    simp at hb
    subst hb
    obtain ⟨y, hy, rfl⟩ := List.mem_map.1 ha'
    have := List.all_eq_true.1 ha y hy
    simpa using this
  · exact h
theorem foldl_nodup : ∀ (l : List PA) (o : List PA), (o.map (fun y => y.k)).Nodup → ((l.foldl ownF o).map (fun y => y.k)).Nodup
  | [], _, h => h
  | x :: l, o, h => foldl_nodup l (ownF o x) (ownF_nodup h)
theorem ownP_nodup (l : List PA) : ((ownP l).map (fun y => y.k)).Nodup := foldl_nodup l [] (by simp)
theorem foldl_len : ∀ (l : List PA) (o : List PA), (l.foldl ownF o).length ≤ o.length + l.length
  | [], _ => by simp
  | x :: l, o => by
    have h1 := foldl_len l (ownF o x)
    have h2 : (ownF o x).length ≤ o.length + 1 := by unfold ownF; split <;> simp
    rw [List.foldl_cons, List.length_cons]
    omega
theorem ownP_len (l : List PA) : (ownP l).length ≤ l.length := by have := foldl_len l []; simpa [ownP] using this
theorem swap_perm {l : List PA} {x y : Nat} {a b : PA} (hx : l[x]? = some a) (hy : l[y]? = some b) : ((l.set x b).set y a).Perm l := by
  have h1 := (List.getElem?_eq_some_iff.1 hx)
  have h2 := (List.getElem?_eq_some_iff.1 hy)
  obtain ⟨hx1, rfl⟩ := h1
  obtain ⟨hy1, rfl⟩ := h2
  exact List.set_set_perm hx1 hy1
/-! Puts. -/
def bldT (l : List PA) : Tr := l.foldl (fun t x => putTop (cP x) t) (.leaf 0 [])
theorem bld_step {l : List PA} {i : Nat} {x : PA} (h : l[i]? = some x) : bldT (l.take (i + 1)) = putTop (cP x) (bldT (l.take i)) := by
  unfold bldT
  rw [List.take_add_one, h, Option.toList_some, List.foldl_append]
  rfl
theorem gd_fold : ∀ (l : List PA) (m : Nat) (t : Tr) (e : EL), (∀ x ∈ l, okP15 x = true) → GdT m t → (t = .leaf 0 [] ∨ entT t ≠ []) → entT t = e → GdT (m + l.length) (l.foldl (fun t x => putTop (cP x) t) t) ∧ entT (l.foldl (fun t x => putTop (cP x) t) t) = putsE (l.map kdP) e ∧ (l.foldl (fun t x => putTop (cP x) t) t = .leaf 0 [] ∨ entT (l.foldl (fun t x => putTop (cP x) t) t) ≠ [])
  | [], m, t, e, _, h, hn, he => ⟨h, he, hn⟩
  | x :: l, m, t, e, hl, h, hn, he => by
    obtain ⟨h1, h2, h3⟩ := gd_put (cP x) (cP_ok (hl x (List.mem_cons_self))).1 rfl h
    have := gd_fold l (m + 1) _ _ (fun y hy => hl y (List.mem_cons_of_mem _ hy)) h1 (.inr h3) h2
    rw [List.length_cons, show m + (l.length + 1) = m + 1 + l.length by omega]
    rw [he] at this
    exact this
theorem gd_bld {l : List PA} (hl : ∀ x ∈ l, okP15 x = true) : GdT l.length (bldT l) ∧ entT (bldT l) = putsE (l.map kdP) [] ∧ (bldT l = .leaf 0 [] ∨ entT (bldT l) ≠ []) := by
  have := gd_fold l 0 (.leaf 0 []) [] hl (gd_empty 0) (.inl rfl) (by rw [entT_leaf]; rfl)
  rw [Nat.zero_add] at this
  exact this
theorem mem_kept {k d : List UInt8} {x : List UInt8 × List UInt8} : ∀ {e : EL}, x ∈ e → x.1 ≠ k → x ∈ putE15 k d e
  | [], h, _ => by cases h
  | y :: e, h, hk => by
    unfold putE15
    split
    · rcases List.mem_cons.1 h with rfl | h
      · exact List.mem_cons_self
      · exact List.mem_cons_of_mem _ (mem_kept h hk)
    · split
      · rename_i h2
        rcases List.mem_cons.1 h with rfl | h
        · exact absurd h2 hk
        · exact List.mem_cons_of_mem _ h
      · exact List.mem_cons_of_mem _ h
theorem mem_here (k d : List UInt8) : ∀ (e : EL), (k, d) ∈ putE15 k d e
  | [] => List.mem_cons_self
  | y :: e => by
    unfold putE15
    split
    · exact List.mem_cons_of_mem _ (mem_here k d e)
    · split <;> exact List.mem_cons_self
theorem kept_puts : ∀ (l e : EL) {x : List UInt8 × List UInt8}, x ∈ e → (∀ y ∈ l, x.1 ≠ y.1) → x ∈ putsE l e
  | [], e, x, h, _ => h
  | y :: l, e, x, h, hl => kept_puts l (putE15 y.1 y.2 e) (mem_kept h (hl y (List.mem_cons_self))) (fun z hz => hl z (List.mem_cons_of_mem _ hz))
theorem mem_puts : ∀ (l e : EL), (l.map (fun x => x.1)).Nodup → ∀ x ∈ l, x ∈ putsE l e
  | [], _, _, x, h => by cases h
  | y :: l, e, hn, x, h => by
    rw [List.map_cons, List.nodup_cons] at hn
    rcases List.mem_cons.1 h with rfl | h
    · exact kept_puts l _ (mem_here x.1 x.2 e) (fun z hz e => hn.1 (e ▸ List.mem_map.2 ⟨z, hz, rfl⟩))
    · exact mem_puts l _ hn.2 x h
theorem rise_puts : ∀ (l e : EL), RisE e → RisE (putsE l e)
  | [], _, h => h
  | y :: l, e, h => by
    obtain ⟨p, ins, hp⟩ := putE_pos y.1 y.2 e h
    exact rise_puts l _ hp.rise
theorem put_again {k d : List UInt8} : ∀ {e : EL}, RisE e → (k, d) ∈ e → putE15 k d e = e
  | [], _, h => by cases h
  | y :: e, hr, h => by
    have h2 := List.pairwise_cons.1 hr
    unfold putE15
    rcases List.mem_cons.1 h with rfl | h
    · rw [if_neg (by simp [bl_irrefl]), if_pos rfl]
    · rw [if_pos (h2.1 _ h), put_again h2.2 h]
theorem puts_again : ∀ (l e : EL), RisE e → (∀ x ∈ l, x ∈ e) → putsE l e = e
  | [], _, _, _ => rfl
  | y :: l, e, hr, h => by
    show putsE l (putE15 y.1 y.2 e) = e
    rw [put_again hr (h y (List.mem_cons_self))]
    exact puts_again l e hr (fun x hx => h x (List.mem_cons_of_mem _ hx))
theorem puts_twice (l : EL) (hn : (l.map (fun x => x.1)).Nodup) : putsE (l ++ l) [] = putsE l [] := by
  unfold putsE
  rw [List.foldl_append]
  exact puts_again l _ (rise_puts l [] List.Pairwise.nil) (mem_puts l [] hn)
theorem len_new {k d : List UInt8} : ∀ {e : EL}, (∀ x ∈ e, x.1 ≠ k) → (putE15 k d e).length = e.length + 1
  | [], _ => rfl
  | y :: e, h => by
    unfold putE15
    split
    · rw [List.length_cons, len_new (fun x hx => h x (List.mem_cons_of_mem _ hx)), List.length_cons]
    · rw [if_neg (h y (List.mem_cons_self))]; rfl
theorem len_puts : ∀ (l e : EL), (l.map (fun x => x.1)).Nodup → (∀ x ∈ e, ∀ y ∈ l, x.1 ≠ y.1) → (putsE l e).length = e.length + l.length
  | [], _, _, _ => rfl
  | y :: l, e, hn, h => by
    rw [List.map_cons, List.nodup_cons] at hn
    show (putsE l (putE15 y.1 y.2 e)).length = _
    rw [len_puts l _ hn.2 (fun x hx z hz => by
      rcases mem_putE hx with rfl | hx
      · exact fun e => hn.1 (e ▸ List.mem_map.2 ⟨z, hz, rfl⟩)
      · exact h x hx z (List.mem_cons_of_mem _ hz)), len_new (fun x hx => h x hx y (List.mem_cons_self)), List.length_cons]
    omega
theorem kd_keys (l : List PA) : (l.map kdP).map (fun x => x.1) = l.map (fun y => y.k) := by simp [kdP, cP, List.map_map, Function.comp_def]
theorem orders_ent {own own' : List PA} (hn : (own.map (fun y => y.k)).Nodup) (hp : own'.Perm own) : putsE ((own' ++ own').map kdP) [] = putsE (own.map kdP) [] ∧ (putsE (own.map kdP) []).length = own.length := by
  have hn' : ((own'.map kdP).map (fun x => x.1)).Nodup := by rw [kd_keys]; exact (hp.map _).nodup_iff.2 hn
  have hk : ((own.map kdP).map (fun x => x.1)).Nodup := by rw [kd_keys]; exact hn
  refine ⟨?_, ?_⟩
  · rw [List.map_append, puts_twice _ hn']
    exact puts_perm (hp.map kdP) hn' []
  · have := len_puts (own.map kdP) [] hk (fun x hx => by cases hx)
    simpa using this
theorem twice_at {l : List PA} {i : Nat} (hi : i < 2 * l.length) : (l ++ l)[i]? = l[i % l.length]? := by
  by_cases h : i < l.length
  · rw [List.getElem?_append_left h, Nat.mod_eq_of_lt h]
  · rw [List.getElem?_append_right (by omega), Nat.mod_eq_sub_mod (by omega), Nat.mod_eq_of_lt (by omega)]
/-! Memory: a box that holds a tree whose blocks are B or beyond. -/
structure BoxM (B : Nat) (W : World) (P : Nat) (t : Tr) (z : NDV) : Prop where
  b : Has W P 29 #[.int .i64 z.p, .bool z.lf, .slice z.kA z.kn z.kc, .slice z.vA z.vn z.vc, .slice z.dA z.dn z.dc]
  rt : RepT (fun q => B ≤ q ∧ q ≠ P) W z t
  hP : B ≤ P
theorem BoxM.below {B : Nat} {W W' : World} {P : Nat} {t : Tr} {z : NDV} (h : BoxM B W P t z) (hb : Below W.heap.size W W') : BoxM B W' P t z :=
  ⟨h.b.below hb h.b.lt, h.rt.stay hb, h.hP⟩
theorem BoxM.grown {B g : Nat} {W W' : World} {P : Nat} {t : Tr} {z : NDV} (h : BoxM B W P t z) (hg : W.grownBy W' (some g)) (hB : g < B) : BoxM B W' P t z := by
  have h1 := h.hP
  exact ⟨h.b.grown hg (by intro e; injection e with e; omega), RepT.move (fun q hq hl => ⟨hq, hg.block q hl (fun e => by injection e with e; omega)⟩) h.rt, h.hP⟩
theorem BoxM.put {B S : Nat} {wr w3 : World} {P : Nat} {t tp : Tr} {z z3 : NDV} (h : BoxM B wr P t z) (hb : Below wr.heap.size wr w3) (hr : RepT (fun g => S ≤ g) w3 z3 tp) (hS : wr.heap.size ≤ S) :
    BoxM B (st5 w3 P (.int .i64 z3.p) (.bool z3.lf) (.slice z3.kA z3.kn z3.kc) (.slice z3.vA z3.vn z3.vc) (.slice z3.dA z3.dn z3.dc)) P tp z3 := by
  have h1 := h.hP
  have h2 := h.b.lt
  exact ⟨(h.b.below hb h2).st5 _ _ _ _ _, RepT.move (fun q hq hl => ⟨by omega, heap_st5 w3 P _ _ _ _ _ q (by omega)⟩) hr, h1⟩
theorem BoxM.new {B : Nat} {w3 W4 : World} {z : NDV} {t : Tr} (hr : RepT (fun g => B ≤ g) w3 z t) (h4 : W4 = w3.alloc (.cells #[.int .i64 z.p, .bool z.lf, .slice z.kA z.kn z.kc, .slice z.vA z.vn z.vc, .slice z.dA z.dn z.dc] 29)) (hB : B ≤ w3.heap.size) : BoxM B W4 w3.heap.size t z := by
  subst h4
  exact ⟨Has.made w3 29 _, RepT.mono (RepT.stay (RepT.old hr) ((Below.refl _ w3).alloc (Nat.le_refl _) _)) (fun g hg => ⟨hg.1, by have := hg.2; omega⟩), hB⟩
theorem own_rowP {B : Nat} {w : World} {A : Option Addr} {n c : Nat} {q : List PA} (h : w.ownsRow B 37 3 (.slice A n c) n (q.flatMap paL)) (hn : n = q.length) : RowP w A n c q := by
  have hr := RwF.ofOwn h
  exact ⟨hn, fun hx => by obtain ⟨g, off, h1, _, h2⟩ := hr.reads hx; exact ⟨g, off, h1, h2⟩, hr.room, hr.most⟩
theorem p15info : (Try.prog.info? 37).map (fun i => (i.zero, i.size, i.bytes)) = some (some (.agg #[.string ⟨#[]⟩, .int .u8 0, .int .i64 0]), 3, 32) := by kernel_rfl
def sta3 (w : World) (P i : Nat) (a b c : Value) : World := ((w.setCell ⟨P, i, none⟩ a).setCell ⟨P, i + 1, none⟩ b).setCell ⟨P, i + 2, none⟩ c
theorem pa_put {l : List PA} {k : Nat} {y : PA} (h : l[k]? = some y) (x : PA) : (((l.flatMap paL).set (k * 3) (.string ⟨x.k.toArray⟩)).set (k * 3 + 1) (byteV x.b)).set (k * 3 + 2) (.int .i64 x.z) = (l.set k x).flatMap paL := by
  have e1 : ∀ m : List PA, m.flatMap paL = flatS paL m := fun _ => rfl
  have hlen : ∀ e, (paL e).length = 3 := fun _ => rfl
  rw [e1, e1, flatS_mid h, flatS_put h, ← flatS_takelen hlen h]
  rw [set_mid0 _ _ _ (by rw [hlen]; omega), set_mid _ _ _ (by rw [List.length_set, hlen]; omega), set_mid _ _ _ (by rw [List.length_set, List.length_set, hlen]; omega)]
  rfl
theorem own_put3P {w : World} {B n c g k : Nat} {q : List PA} {y : PA} (h : w.ownsRow B 37 3 (.slice (some ⟨g, 0, none⟩) n c) n (q.flatMap paL)) (hy : q[k]? = some y) (x : PA) : (sta3 w g (k * 3) (.string ⟨x.k.toArray⟩) (byteV x.b) (.int .i64 x.z)).ownsRow B 37 3 (.slice (some ⟨g, 0, none⟩) n c) n ((q.set k x).flatMap paL) ∧ w.grownBy (sta3 w g (k * 3) (.string ⟨x.k.toArray⟩) (byteV x.b) (.int .i64 x.z)) (some g) := by
  have h1 := h.stored (k * 3) (.string ⟨x.k.toArray⟩)
  have h2 := h1.1.stored (k * 3 + 1) (byteV x.b)
  have h3 := h2.1.stored (k * 3 + 2) (.int .i64 x.z)
  rw [← pa_put hy x]
  exact ⟨h3.1, only_store (only_store (only_store (only_refl w g) _ _) _ _) _ _⟩
theorem own_at3 {w : World} {B n c k : Nat} {A : Option Addr} {q : List PA} (h : w.ownsRow B 37 3 (.slice A n c) n (q.flatMap paL)) {y : PA} (hy : q[k]? = some y) : ∃ g, A = some ⟨g, 0, none⟩ ∧ B ≤ g ∧ g < w.heap.size ∧ (∀ i, w.frozen? ⟨g, i, none⟩ = false) ∧ w.cell? ⟨g, k * 3, none⟩ = some (.string ⟨y.k.toArray⟩) ∧ w.cell? ⟨g, k * 3 + 1, none⟩ = some (byteV y.b) ∧ w.cell? ⟨g, k * 3 + 2, none⟩ = some (.int .i64 y.z) := by
  have hl : n = q.length := by
    have := h.1
    rw [flatP_len] at this
    omega
  obtain ⟨g, off, hA, c0, c1, c2⟩ := (own_rowP h hl).at3 hy
  rcases h.2 with ⟨e1, _⟩ | ⟨g', cap, cur, e1, e2, hc, _⟩
  · injection e1 with e1 _ _
    rw [hA] at e1
    cases e1
  · injection e1 with e1 _ _
    rw [hA] at e1
    injection e1 with e1
    injection e1 with e3 e4 _
    subst e3 e4
    rw [Nat.zero_add] at c0 c1 c2
    exact ⟨g, hA, e2, Has.lt (show Has w g 37 cur from hc), fun i => Has.free (show Has w g 37 cur from hc) i, c0, c1, c2⟩
theorem below_sta3 {B : Nat} {w0 w : World} {P i : Nat} (h : Below B w0 w) (hP : B ≤ P) (a b c : Value) : Below B w0 (sta3 w P i a b c) :=
  ((h.setCell (p := ⟨P, i, none⟩) hP a).setCell (p := ⟨P, i + 1, none⟩) hP b).setCell (p := ⟨P, i + 2, none⟩) hP c
theorem set_at {α : Type} {l : List α} {x y : Nat} {a b : α} (hx : l[x]? = some a) (hy : l[y]? = some b) : (l.set x b)[y]? = some b := by
  by_cases h : x = y
  · subst h
    have := (List.getElem?_eq_some_iff.1 hx).1
    simp [this]
  · rw [List.getElem?_set_ne h, hy]
end Go.Proofs.Ytpaklhifnndeoaa
end

section
namespace Go.Proofs.Ytpaklhifnndeoaa
open Go.RowKit
set_option linter.unusedVariables false

def gV (g : Bool) (v : Value) : Value := if g = true then v else undef
def boolOf : Option Value → Option Bool
  | some (.bool b) => some b
  | _ => none
theorem yielded_slot {ops : Array Oper} {tmps : Array Value} {j d : Nat} (hd : (ops[j]?).bind (·.dst) = some d) : yielded ops tmps j = boolOf tmps[d]? := by
  unfold yielded
  rw [hd]
  show (match tmps[d]? with | some (.bool b) => some b | _ => none) = _
  rcases tmps[d]? with _ | u
  · rfl
  · cases u <;> rfl
theorem yif_guard {P : Program} {ops : Array Oper} {S : World → Prop} {o : Oper} {a : Act} {g : Bool} {v : Value} {j d : Nat} {β : Bool} (hgd : o.guard = some (j, β)) (hd : (ops[j]?).bind (·.dst) = some d) (hs : (boolOf a.tmps[d]? == some β) = g)
    (h : g = true → ∀ w, S w → (execOp a.eval o).run P w = .ok (.value v) w) : YieldsIf P ops S o (gV g v) a := by
  have hw : Region.wanted o (yielded ops a.tmps) = g := by
    unfold Region.wanted
    rw [hgd]
    show (yielded ops a.tmps j == some β) = g
    rw [yielded_slot hd, hs]
  cases g with
  | true => exact .inl ⟨hw, h rfl⟩
  | false => exact .inr ⟨hw, rfl⟩
theorem wpAnyH_quiet {P : Program} {md : Region.Mode} {ops : Array Oper} {Q : Exit → Act → World → Prop} {S : World → Prop} {i : Nat} {oi : Oper} {v : Value} {g : Bool} {fuel : Nat} {listed : Array Bool} {a : Act} {w : World} (hi : ops[i]? = some oi)
    (hr : Region.ready md ops listed = [i]) (hw : Region.wanted oi (yielded ops a.tmps) = g) (hc : g = true → ∀ K : Act → World → Prop, K (a.put oi.dst v) w → Oper.wp P oi a w K Q) (hS : S w)
    (h : wpAnyH P md ops Q S fuel (listed.setIfInBounds i true) (a.put oi.dst (gV g v)) w) : wpAnyH P md ops Q S (fuel + 1) listed a w := by
  refine wpAnyH_all hr (by simp) ?_
  intro k hk
  rw [List.mem_singleton] at hk
  subst hk
  unfold wpOp
  simp only [hi]
  rw [hw]
  cases g with
  | true => exact .inl (hc rfl _ ⟨hS, h⟩)
  | false => exact ⟨hS, h⟩
end Go.Proofs.Ytpaklhifnndeoaa
end
