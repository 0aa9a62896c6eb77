import Derived.Test.YtglkmpglpddfdaaGreatDoorJ31
import Derived.Test.YtglkmpglpddfdaaGreatDoorJ00
import Derived.Test.YtglkmpglpddfdaaGreatDoorRows
import Derived.Sort.Defs
import Derived.Shelf.Abstract
import Derived.BigCall
import Derived.BigGuard
import Derived.LoopTactic
import Derived.Outline
import Derived.WalkSpells
import Derived.WalkLawsBesides
import Derived.KernelRfl
/- Of a claim's texts, joined: Cps Sra. No statement but in the last. -/
section
namespace Go.Proofs.YtglkmpglpddfdaaGreatDoor
open Go.RowKit
set_option linter.unusedVariables false

def SortC (few : Nat) : Prop := ∀ (B base : Nat) (vn vu vq v : Value) (l : List G) (w : World), Base5 w → l.length ≤ few → Has w B 28 #[vn, vu, vq, v] → w.ownsRow base 45 3 v l.length (cellsG l) → base ≤ w.heap.size →
  Calls Tryz.prog 19 #[.iface 26 v, .func (.func 20) #[] #[.pointer (some ⟨B, 0, none⟩)]] w fun e w' => e = .returned (.tuple #[]) ∧ w.grownBy w' v.ownBlock ∧ ∃ l' : List G, l'.length = l.length ∧ compG l' = l.foldl insG [] ∧ w'.ownsRow base 45 3 v l.length (cellsG l')
def CompC (few : Nat) : Prop := ∀ (base : Nat) (v : Value) (l : List G) (w : World), Base5 w → l.length ≤ few → w.ownsRow base 45 3 v l.length (cellsG l) → base ≤ w.heap.size →
  Calls Tryz.prog 22 #[v] w fun e w' => ∃ v', e = .returned v' ∧ w.grownBy w' v.ownBlock ∧ w'.ownsRow base 45 3 v' (compG l).length (cellsG (compG l))
structure Pz (w : World) (B : Nat) (vn vu vq vg : Value) (c : Cf) (l : List G) : Prop where
  rs : Rs w B vn vu vq vg 0 0 0
  n : w.ownsRow (B + 4) 9 1 vn c.names.length (c.names.map strV)
  q : w.ownsRow (B + 4) 3 1 vq c.quotas.length (c.quotas.map (Value.int .i64))
  g : w.ownsRow (B + 4) 45 3 vg l.length (cellsG l)
theorem Pz.below {w w' : World} {B : Nat} {vn vu vq vg : Value} {c : Cf} {l : List G} (h : Pz w B vn vu vq vg c l) (hb : Below w.heap.size w w') : Pz w' B vn vu vq vg c l :=
  ⟨h.rs.below hb, own_bel h.n hb, own_bel h.q hb, own_bel h.g hb⟩
theorem Pz.setU {w : World} {B : Nat} {vn vu vq vg : Value} {c : Cf} {l : List G} (h : Pz w B vn vu vq vg c l) (u : Value) : Pz (w.setCell ⟨B, 1, none⟩ u) B vn u vq vg c l ∧ RsE w (w.setCell ⟨B, 1, none⟩ u) B := by
  have hE : RsE w (w.setCell ⟨B, 1, none⟩ u) B := ⟨fun g hg => set_hp rfl (by omega), fun w0 C hC hb => set_below rfl hC hb⟩
  obtain ⟨⟨r0, r1, r2, r3⟩, n, q, g⟩ := h
  exact ⟨⟨⟨set_own rfl r0 (by simp), set_away rfl (by omega) r1, set_away rfl (by omega) r2, set_away rfl (by omega) r3⟩, hE.own (Nat.le_refl _) n, hE.own (Nat.le_refl _) q, hE.own (Nat.le_refl _) g⟩, hE⟩
theorem Pz.setG {w : World} {B : Nat} {vn vu vq vg v' : Value} {c : Cf} {l' : List G} (rs : Rs w B vn vu vq vg 0 0 0) (n : w.ownsRow (B + 4) 9 1 vn c.names.length (c.names.map strV)) (q : w.ownsRow (B + 4) 3 1 vq c.quotas.length (c.quotas.map (Value.int .i64)))
    (hg : w.ownsRow (B + 4) 45 3 v' l'.length (cellsG l')) : Pz (w.setCell ⟨B, 3, none⟩ v') B vn vu vq v' c l' ∧ RsE w (w.setCell ⟨B, 3, none⟩ v') B := by
  have hE : RsE w (w.setCell ⟨B, 3, none⟩ v') B := ⟨fun g hg => set_hp rfl (by omega), fun w0 C hC hb => set_below rfl hC hb⟩
  obtain ⟨r0, r1, r2, r3⟩ := rs
  exact ⟨⟨⟨set_own rfl r0 (by simp), set_away rfl (by omega) r1, set_away rfl (by omega) r2, set_away rfl (by omega) r3⟩, hE.own (Nat.le_refl _) n, hE.own (Nat.le_refl _) q, hE.own (Nat.le_refl _) hg⟩, hE⟩
theorem Pz.grown {w w' : World} {B : Nat} {vn vu vq vg : Value} {c : Cf} {l : List G} (h : Pz w B vn vu vq vg c l) (hg : w.grownBy w' vg.ownBlock) :
    Rs w' B vn vu vq vg 0 0 0 ∧ w'.ownsRow (B + 4) 9 1 vn c.names.length (c.names.map strV) ∧ w'.ownsRow (B + 4) 3 1 vq c.quotas.length (c.quotas.map (Value.int .i64)) ∧ ∀ (w0 : World) (C : Nat), C ≤ B → Below C w0 w → Below C w0 w' := by
  obtain ⟨⟨r0, r1, r2, r3⟩, n, q, g⟩ := h
  refine ⟨⟨has_grown r0 g hg (by decide), has_grown r1 g hg (by decide), has_grown r2 g hg (by decide), has_grown r3 g hg (by decide)⟩, n.kept hg (own_sep n g (by decide)), q.kept hg (own_sep q g (by decide)), fun w0 C hC hb => ?_⟩
  refine hb.trans ⟨hg.os, hg.tape, hg.output, hg.size, fun i hi => hg.block i (by have := r0.lt; omega) (fun e => ?_)⟩
  have := (g.lt i e.symm).1
  omega
theorem arg_grown {w w' : World} {b : Nat} {v : Value} {l : List G} {A : Option Addr} {n k : Nat} {up : List Nat} (h : ArgU w A n k up) (ho : w.ownsRow b 45 3 v l.length (cellsG l)) (hg : w.grownBy w' v.ownBlock) (hA : ∀ a, A = some a → v.ownBlock ≠ some a.block) : ArgU w' A n k up :=
  ⟨h.len, fun hx => by
    obtain ⟨g, off, rfl, hc⟩ := h.reads hx
    exact ⟨g, off, rfl, fun j u hj => hg.cell (hc j u hj) (fun e => hA _ rfl e.symm)⟩, fun hn a he => Nat.lt_of_lt_of_le (h.old hn a he) hg.size, h.room, h.most, h.big⟩
def ReadC (B : Nat) (c : Cf) (W : World) (e : Ending) (w' : World) : Prop := ∃ nA nn nk A n k qA qn qk gA gn gk, e = .returned (.agg #[.slice nA nn nk, .slice A n k, .slice qA qn qk, .slice gA gn gk]) ∧ ArgU w' A n k c.up ∧ w'.ownsRow (B + 4) 9 1 (.slice nA nn nk) c.names.length (c.names.map strV) ∧
  w'.ownsRow (B + 4) 3 1 (.slice qA qn qk) c.quotas.length (c.quotas.map (Value.int .i64)) ∧ w'.ownsRow (B + 4) 45 3 (.slice gA gn gk) c.grants.length (cellsG c.grants) ∧ (∀ a, A = some a → B + 4 ≤ a.block) ∧ n ≤ 64 ∧ c.names.length ≤ 64 ∧ Below W.heap.size W w'
theorem text_read {B m : Nat} {c : Cf} {W w' : World} {e : Ending} (hs : W.heap.size = B + 4) (h : TextR W.heap.size m (c, none) W e w') : ReadC B c W e w' := by
  rcases h with ⟨a, k, h1, _⟩ | ⟨_, ho, ⟨vn, vu, vq, vg, h2, h3, h4, h5, h6⟩, h7⟩
  · exact nomatch h1
  · have ho2 : Okf c m := ho
    obtain ⟨A, k, hv, ha, _⟩ := argU_own h4 rfl ho2.big
    rw [hs] at h3 h4 h5 h6
    obtain ⟨nA, nk, rfl⟩ := own_sl h3
    obtain ⟨qA, qk, rfl⟩ := own_sl h5
    obtain ⟨gA, gk, rfl⟩ := own_sl h6
    refine ⟨nA, _, nk, A, _, k, qA, _, qk, gA, _, gk, by rw [h2, hv], ha, h3, h5, h6, fun a hA => (h4.lt a.block (by rw [hv, hA]; rfl)).1, ?_, ho2.most, h7⟩
    have h8 := ho2.ups
    have h9 := ho2.most
    show c.up.length ≤ 64
    omega
theorem boxed {B : Nat} {c : Cf} {w V1 V2 V3 V : World} {vn vq vg : Value} {A : Option Addr} {n k : Nat} (hR : Rs w B (.slice none 0 0) (.slice none 0 0) (.slice none 0 0) (.slice none 0 0) 0 0 0)
    (h3 : w.ownsRow (B + 4) 9 1 vn c.names.length (c.names.map strV)) (h4 : w.ownsRow (B + 4) 3 1 vq c.quotas.length (c.quotas.map (Value.int .i64))) (h5 : w.ownsRow (B + 4) 45 3 vg c.grants.length (cellsG c.grants))
    (e1 : w.setCell ⟨B, 0, none⟩ vn = V1) (e2 : V1.setCell ⟨B, 1, none⟩ (.slice A n k) = V2) (e3 : V2.setCell ⟨B, 2, none⟩ vq = V3) (e4 : V3.setCell ⟨B, 3, none⟩ vg = V) : Pz V B vn (.slice A n k) vq vg c c.grants ∧ RsE w V B := by
  obtain ⟨hr, hE⟩ := hR.conf e1 e2 e3 e4
  exact ⟨⟨hr, hE.own (Nat.le_refl _) h3, hE.own (Nat.le_refl _) h4, hE.own (Nat.le_refl _) h5⟩, hE⟩
theorem own_T {w : World} {b n k : Nat} {A : Option Addr} {l : List (List UInt8)} (h : w.ownsRow b 9 1 (.slice A n k) l.length (l.map strV)) : ArgT w A n k l := by
  obtain ⟨A', c', hv, ha⟩ := argT_own h rfl
  injection hv with h1 h2 h3
  subst h1 h2 h3
  exact ha
theorem own_I {w : World} {b n k : Nat} {A : Option Addr} {l : List Int} (h : w.ownsRow b 3 1 (.slice A n k) l.length (l.map (Value.int .i64))) : ArgI w A n k l := by
  rcases h.2 with ⟨hv, hn⟩ | ⟨g, cap, cur, hv, hb, hg, h1, h2, h3, h4⟩
  · injection hv with e1 e2 e3
    subst e1 e2 e3
    obtain rfl : l = [] := List.length_eq_zero_iff.1 hn
    exact ⟨rfl, Reads.empty, fun h => absurd h (Nat.lt_irrefl 0), Nat.le_refl _, Nat.zero_le _⟩
  · have hl := h.lt g (by rw [hv]; rfl)
    injection hv with e1 e2 e3
    subst e1 e2 e3
    refine ⟨rfl, fun hx => ⟨g, 0, rfl, fun j u hj => ?_⟩, fun hn a ha => ?_, h1, h2⟩
    · have := h.cells (g := g) rfl j u hj
      rw [add_plain] at this
      exact this
    · injection ha with ha
      subst ha
      exact hl.2
theorem own_G {w : World} {b n k : Nat} {A : Option Addr} {l : List G} (h : w.ownsRow b 45 3 (.slice A n k) l.length (cellsG l)) : ArgG w A n k l := by
  rcases argGo h rfl with ⟨hv, rfl⟩ | ⟨g, c', hv, ha⟩
  · injection hv with e1 e2 e3
    subst e1 e2 e3
    exact ⟨rfl, Reads.empty, fun h => absurd h (Nat.lt_irrefl 0), Nat.le_refl _, Nat.zero_le _⟩
  · injection hv with e1 e2 e3
    subst e1 e2 e3
    exact ha
set_option maxRecDepth 100000 in
set_option maxHeartbeats 8000000 in
theorem parse_done (few : Nat) (hS : SortC few) (hC : CompC few) (L : List UInt8) (w : World) (ht : Base5 w) (hl : L.length ≤ 500000) (c : Cf) (hp : parseR (linesN L) 1 cf0 = (c, none)) (hf : c.grants.length ≤ few) :
    Calls Tryz.prog 7 #[.string ⟨L.toArray⟩] w (ParseEnd (parseN L) w) := by
  obtain ⟨W, hW⟩ : ∃ W, boxes w = W := ⟨_, rfl⟩
  have hR := hW ▸ boxes_rs w
  have hB := hW ▸ boxes_below w
  have hs := hW ▸ boxes_size w
  have hRd0 := readText_any L W (ht.below hB) hl
  rw [hp] at hRd0
  have hRd : Calls Tryz.prog 17 #[.string ⟨L.toArray⟩] W (ReadC w.heap.size c W) := hRd0.mono (fun e w' h => text_read hs h)
  clear hRd0
  have HPn := Lib.hid (fun l hg => parse_none (l := l) hp hg)
  have HRd := Lib.hid hRd
  have HR := Lib.hid hR
  have HB := Lib.hid hB
  have HS := Lib.hid hs
  have HT := Lib.hid ht
  have HSo := Lib.hid hS
  have HCo := Lib.hid hC
  have HF := Lib.hid hf
  clear hRd hR hB hs ht hp hS hC hf
  unfold boxes nilC at hW
  have hmf : ∀ (fn : Fn) (first cap : Array Value) (w : World), (Instr.makeFunc fn first cap).run Tryz.prog w = .ok (.func fn first cap) w := fun _ _ _ _ => rfl
  generalize parseN L = PN at HPn ⊢
  go_enter_defers Tryz.func7, Tryz.ntmps7
  go_wp2_with (first
    | (go_at_call 17; (with_reducible refine HRd.out.mono ?_); rintro e w2 ⟨nA, nn, nk, A, n, k, qA, qn, qk, gA, gn, gk, rfl, hu, h3, h4, h5, hA4, hu64, hn64, hb2⟩; have HA := Lib.hid hA4; have HU64 := Lib.hid hu64; have HN64 := Lib.hid hn64; have HU := Lib.hid hu; have HN := Lib.hid h3; have HQ := Lib.hid h4; have HG := Lib.hid h5; have B2 := Lib.hid hb2; have R2 := Lib.hid (HR.out.below hb2); have c0 := R2.out.r0.cell 0; have c1 := R2.out.r0.cell 1; have c2 := R2.out.r0.cell 2; have c3 := R2.out.r0.cell 3; have z0 := R2.out.r0.free 0; have z1 := R2.out.r0.free 1; have z2 := R2.out.r0.free 2; have z3 := R2.out.r0.free 3; simp at c0 c1 c2 c3; clear hu h3 h4 h5 hb2 hA4 hu64 hn64)
    | (go_at_call 18
       obtain ⟨V4, e4⟩ : ∃ V, (((w2.setCell ⟨w.heap.size, 0, none⟩ (.slice nA nn nk)).setCell ⟨w.heap.size, 1, none⟩ (.slice A n k)).setCell ⟨w.heap.size, 2, none⟩ (.slice qA qn qk)).setCell ⟨w.heap.size, 3, none⟩ (.slice gA gn gk) = V := ⟨_, rfl⟩
       rw [e4]
       have P4 := Lib.hid (boxed R2.out HN.out HQ.out HG.out rfl rfl rfl e4)
       refine (laClose_new c.up A n k V4 (P4.out.2.arg HU.out HA.out) (Nat.le_trans HU64.out (by decide))).mono ?_
       rintro e w3 ⟨A2, n2, k2, rfl, hu2, hA2, hb3⟩
       have HU2 := Lib.hid hu2
       have HA2 := Lib.hid hA2
       have P3 := Lib.hid (P4.out.1.below hb3)
       have B3 : Hid (Below w.heap.size w w3) := Lib.hid ((P4.out.2.low w _ (Nat.le_refl _) (HB.out.trans (B2.out.mono (by have := HS.out; omega)))).trans (hb3.mono (Nat.le_of_lt P4.out.1.rs.r0.lt)))
       have HG4 := Lib.hid P4.out.1.g
       have E4 := Lib.hid e4
       clear e4 hu2 hA2 hb3
       have d1 := P3.out.rs.r0.cell 1
       have d3 := P3.out.rs.r0.cell 3
       have y1 := P3.out.rs.r0.free 1
       have y3 := P3.out.rs.r0.free 3
       simp at d1 d3)
    | (go_at_call 19
       obtain ⟨V5, e5⟩ : ∃ V, w3.setCell ⟨w.heap.size, 1, none⟩ (.slice A2 n2 k2) = V := ⟨_, rfl⟩
       have P5 := P3.out.setU (.slice A2 n2 k2)
       rw [e5] at P5 ⊢
       have h34 := P4.out.1.rs.r3.lt
       have hU5 := P5.2.arg HU2.out (fun a ha => by have := HA2.out a ha; omega)
       have hB5 := P5.2.low w _ (Nat.le_refl _) B3.out
       refine (HSo.out w.heap.size (w.heap.size + 4) _ _ _ _ c.grants V5 (HT.out.below hB5) HF.out P5.1.rs.r0 P5.1.g P5.1.rs.r3.lt).mono ?_
       rintro e w4 ⟨rfl, hg4, l', hl', hc', ho4⟩
       obtain ⟨R4, N4, Q4, L4⟩ := P5.1.grown hg4
       rw [← hl'] at ho4
       have P6 : Hid (Pz w4 w.heap.size (.slice nA nn nk) (.slice A2 n2 k2) (.slice qA qn qk) (.slice gA gn gk) c l') := Lib.hid ⟨R4, N4, Q4, ho4⟩
       have B6 := Lib.hid (L4 w _ (Nat.le_refl _) hB5)
       have HU6 := Lib.hid (arg_grown hU5 P5.1.g hg4 (fun a ha hk => by have h1 := (HG4.out.lt _ hk).2; have h2 := HA2.out a ha; omega))
       have HCE := Lib.hid hc'
       have HL' := Lib.hid (Nat.le_trans (Nat.le_of_eq hl') HF.out)
       have d3' := P6.out.rs.r0.cell 3
       simp at d3'
       clear e5 P5 h34 hU5 hB5 hg4 hl' hc' ho4 R4 N4 Q4 L4)
    | (go_at_call 22
       refine (HCo.out (w.heap.size + 4) _ l' w4 (HT.out.below B6.out) HL'.out P6.out.g P6.out.rs.r3.lt).mono ?_
       rintro e w5 ⟨v', rfl, hg5, ho5⟩
       obtain ⟨xA, xk, rfl⟩ := own_sl ho5
       obtain ⟨R7, N7, Q7, L7⟩ := P6.out.grown hg5
       have HO7 := Lib.hid ho5
       have RR7 := Lib.hid R7
       have NN7 := Lib.hid N7
       have QQ7 := Lib.hid Q7
       have B7 := Lib.hid (L7 w _ (Nat.le_refl _) B6.out)
       have HU7 := Lib.hid (arg_grown HU6.out P6.out.g hg5 (fun a ha hk => by have h1 := (HG4.out.lt _ hk).2; have h2 := HA2.out a ha; omega))
       have s0 := R7.r0.cell 0
       have s1 := R7.r0.cell 1
       have s2 := R7.r0.cell 2
       have s3 := R7.r0.cell 3
       have t3 := R7.r0.free 3
       simp at s0 s1 s2 s3
       clear hg5 ho5 R7 N7 Q7 L7)
    | (go_at_call 12
       obtain ⟨V6, e6⟩ : ∃ V, w5.setCell ⟨w.heap.size, 3, none⟩ (.slice xA (compG l').length xk) = V := ⟨_, rfl⟩
       have P8 := Pz.setG RR7.out NN7.out QQ7.out HO7.out
       rw [e6] at P8 ⊢
       obtain ⟨hPN, hnm⟩ := HPn.out l' HCE.out
       have h34 := P4.out.1.rs.r3.lt
       have hT := own_T P8.1.n
       have hU := P8.2.arg HU7.out (fun a ha => by have := HA2.out a ha; omega)
       have hAC : ArgC V6 ⟨nA, nn, nk, A2, n2, k2, qA, qn, qk, xA, (compG l').length, xk⟩ { c with up := closeN c.up, grants := compG l' } := ⟨hT, hU, own_I P8.1.q, own_G P8.1.g, fun x hx => Nat.le_trans (hnm x hx) (by omega)⟩
       have hn1 : nn ≤ 1000 := by have := hT.len; have := HN64.out; omega
       have hn2 : n2 ≤ 1000000 := by have h1 := hU.len; have h2 := HU.out.len; have h3 := HU64.out; rw [closeN_len _ (by omega)] at h1; omega
       have hB8 := P8.2.low w _ (Nat.le_refl _) B7.out
       refine (coCheck_any _ _ V6 (HT.out.below hB8) hAC hn1 hn2).mono ?_
       rintro e w6 ⟨rfl, hb6⟩
       have AC := Lib.hid (hAC.below hb6)
       have P9 := Lib.hid (P8.1.below hb6)
       have B9 := Lib.hid (hB8.trans (hb6.mono (Nat.le_of_lt P8.1.rs.r0.lt)))
       have HPN := Lib.hid hPN
       clear hPN hnm h34 hT hU hAC hn1 hn2 hB8 hb6 P8 e6
       generalize checkC { c with up := closeN c.up, grants := compG l' } = q at HPN ⊢
       have v0 := P9.out.rs.r0.cell 0
       have v1 := P9.out.rs.r0.cell 1
       have v2 := P9.out.rs.r0.cell 2
       have v3 := P9.out.rs.r0.cell 3
       have v4 := P9.out.rs.r1.cell0
       have v5 := P9.out.rs.r2.cell0
       have v6 := P9.out.rs.r3.cell0
       have f0 := P9.out.rs.r0.free 0
       have f1 := P9.out.rs.r0.free 1
       have f2 := P9.out.rs.r0.free 2
       have f3 := P9.out.rs.r0.free 3
       have f4 := P9.out.rs.r1.free 0
       have f5 := P9.out.rs.r2.free 0
       have f6 := P9.out.rs.r3.free 0
       simp at v0 v1 v2 v3
       cases q))
  · obtain ⟨U4, g4⟩ : ∃ V, (((w6.setCell ⟨w.heap.size, 0, none⟩ (.slice none 0 0)).setCell ⟨w.heap.size, 1, none⟩ (.slice none 0 0)).setCell ⟨w.heap.size, 2, none⟩ (.slice none 0 0)).setCell ⟨w.heap.size, 3, none⟩ (.slice none 0 0) = V := ⟨_, rfl⟩
    rw [g4]
    obtain ⟨R8, E8⟩ := P9.out.rs.conf rfl rfl rfl g4
    obtain ⟨U5, g5⟩ : ∃ V, U4.setCell ⟨w.heap.size + 1, 0, none⟩ (.int .i64 13) = V := ⟨_, rfl⟩
    rw [g5]
    obtain ⟨R9, E9⟩ := R8.num1 g5
    obtain ⟨U6, g6⟩ : ∃ V, U5.setCell ⟨w.heap.size + 1 + 1, 0, none⟩ (.int .i64 0) = V := ⟨_, rfl⟩
    rw [g6]
    obtain ⟨R10, E10⟩ := R9.num2 g6
    obtain ⟨V, g7⟩ : ∃ V, U6.setCell ⟨w.heap.size + 1 + 1 + 1, 0, none⟩ (.int .i64 0) = V := ⟨_, rfl⟩
    rw [g7]
    obtain ⟨hRV, E11⟩ := R10.num3 g7
    have hEV := ((E8.then E9).then E10).then E11
    clear g4 g5 g6 g7 R8 E8 R9 E9 R10 E10 E11
    refine leaves_cons (f := 16) (args := resP w.heap.size) (by simp) (by simp [go_sem, resP]) ?_
    refine (catch_idle w.heap.size V).mono ?_
    rintro e u' w'' ⟨rfl, rfl, rfl⟩
    have r0 := hRV.r0.cell 0
    have r1 := hRV.r0.cell 1
    have r2 := hRV.r0.cell 2
    have r3 := hRV.r0.cell 3
    have r4 := hRV.r1.cell0
    have r5 := hRV.r2.cell0
    have r6 := hRV.r3.cell0
    simp at r0 r1 r2 r3
    have hbw := hEV.low w _ (Nat.le_refl _) B9.out
    have hq : PN = (cf0, 13, 0, 0) := by simpa using HPN.out
    subst hq
    have HE := Lib.hid hEV
    have HBW := Lib.hid hbw
    clear hEV hbw HPN HPn
    simp [Leaves, settle, results, Tryz.f7, go_sem, r0, r1, r2, r3, r4, r5, r6]
    exact ⟨⟨none, 0, 0, none, 0, 0, none, 0, 0, none, 0, 0⟩, rfl, argC0 _, HBW.out⟩
  · obtain ⟨U4, g4⟩ : ∃ V, (((w6.setCell ⟨w.heap.size, 0, none⟩ (.slice nA nn nk)).setCell ⟨w.heap.size, 1, none⟩ (.slice A2 n2 k2)).setCell ⟨w.heap.size, 2, none⟩ (.slice qA qn qk)).setCell ⟨w.heap.size, 3, none⟩ (.slice xA (compG l').length xk) = V := ⟨_, rfl⟩
    rw [g4]
    obtain ⟨R8, E8⟩ := P9.out.rs.conf rfl rfl rfl g4
    obtain ⟨U5, g5⟩ : ∃ V, U4.setCell ⟨w.heap.size + 1, 0, none⟩ (.int .i64 0) = V := ⟨_, rfl⟩
    rw [g5]
    obtain ⟨R9, E9⟩ := R8.num1 g5
    obtain ⟨U6, g6⟩ : ∃ V, U5.setCell ⟨w.heap.size + 1 + 1, 0, none⟩ (.int .i64 0) = V := ⟨_, rfl⟩
    rw [g6]
    obtain ⟨R10, E10⟩ := R9.num2 g6
    obtain ⟨V, g7⟩ : ∃ V, U6.setCell ⟨w.heap.size + 1 + 1 + 1, 0, none⟩ (.int .i64 0) = V := ⟨_, rfl⟩
    rw [g7]
    obtain ⟨hRV, E11⟩ := R10.num3 g7
    have hEV := ((E8.then E9).then E10).then E11
    clear g4 g5 g6 g7 R8 E8 R9 E9 R10 E10 E11
    refine leaves_cons (f := 16) (args := resP w.heap.size) (by simp) (by simp [go_sem, resP]) ?_
    refine (catch_idle w.heap.size V).mono ?_
    rintro e u' w'' ⟨rfl, rfl, rfl⟩
    have r0 := hRV.r0.cell 0
    have r1 := hRV.r0.cell 1
    have r2 := hRV.r0.cell 2
    have r3 := hRV.r0.cell 3
    have r4 := hRV.r1.cell0
    have r5 := hRV.r2.cell0
    have r6 := hRV.r3.cell0
    simp at r0 r1 r2 r3
    have hbw := hEV.low w _ (Nat.le_refl _) B9.out
    have hq : PN = ({ c with up := closeN c.up, grants := compG l' }, 0, 0, 0) := by simpa using HPN.out
    subst hq
    have HE := Lib.hid hEV
    have HBW := Lib.hid hbw
    clear hEV hbw HPN HPn
    simp [Leaves, settle, results, Tryz.f7, go_sem, r0, r1, r2, r3, r4, r5, r6]
    exact ⟨⟨nA, nn, nk, A2, n2, k2, qA, qn, qk, xA, (compG l').length, xk⟩, rfl, ⟨own_T (HE.out.own (Nat.le_refl _) P9.out.n), HE.out.arg AC.out.up (fun a ha => by have h1 := HA2.out a ha; have h2 := P4.out.1.rs.r3.lt; omega), own_I (HE.out.own (Nat.le_refl _) P9.out.q), own_G (HE.out.own (Nat.le_refl _) P9.out.g), AC.out.strs⟩, HBW.out⟩
theorem coParse_few (few : Nat) (hS : SortC few) (hC : CompC few) (L : List UInt8) (w : World) (ht : Base5 w) (hl : L.length ≤ 500000) (hf : ∀ c, parseR (linesN L) 1 cf0 = (c, none) → c.grants.length ≤ few) :
    Calls Tryz.prog 7 #[.string ⟨L.toArray⟩] w (ParseEnd (parseN L) w) := by
  obtain ⟨⟨c, o⟩, hp⟩ : ∃ r, parseR (linesN L) 1 cf0 = r := ⟨_, rfl⟩
  cases o with
  | none => exact parse_done few hS hC L w ht hl c hp (hf c hp)
  | some ak =>
    obtain ⟨a, k⟩ := ak
    have h2 : (parseR (linesN L) 1 cf0).2 = some (a, k) := by rw [hp]
    rw [parse_some h2]
    exact parse_fail L w ht hl a k h2

end Go.Proofs.YtglkmpglpddfdaaGreatDoor
end

section
namespace Go.Proofs.YtglkmpglpddfdaaGreatDoor
open Go.RowKit Go.Sort
set_option linter.unusedVariables false

structure Srt {α : Type} [Inhabited α] (lt : α → α → Bool) (I : Array α → World → Prop) (blk n low g sf : Nat) (lb sb : Array Value) : Prop where
  enters : ∀ args w, (callFunc g args).run Tryz.prog w = .ok (.enter g args) w
  less : ∀ d W (i j : Nat), I d W → i < n → j < n → Calls Tryz.prog g (#[.int .i64 (i : Int), .int .i64 (j : Int)] ++ lb) W fun e w' => e = .returned (.bool (lt d[i]! d[j]!)) ∧ Below W.heap.size W w'
  swap : ∀ d W (i j : Nat), I d W → i < n → j < n → ∃ W', (callFunc sf (#[.int .i64 (i : Int), .int .i64 (j : Int)] ++ sb)).run Tryz.prog W = .ok (.value (.tuple #[])) W' ∧ I (swp d i j) W' ∧ W.grownBy W' (some blk)
  below : ∀ d W W', I d W → Below W.heap.size W W' → I d W'
  size : ∀ d W, I d W → d.size = n
  blk : ∀ d W, I d W → blk < W.heap.size
  most : n < 4611686018427387904
  away : ∀ d W q u, I d W → low ≤ q → I d (W.setCell ⟨q, 0, none⟩ u)
  high : ∀ d W, I d W → low ≤ W.heap.size
section
variable {w w1 w2 w' : World} {blk : Nat}
theorem gb_refl (w : World) (r : Option Nat) : w.grownBy w r := World.grownBy.refl w r
theorem gb_below (h : Below w.heap.size w w') (r : Option Nat) : w.grownBy w' r := ⟨h.os, h.tape, h.output, h.size, fun i hi _ => h.block i hi⟩
theorem gb_trans {r : Option Nat} (h : w.grownBy w1 r) (k : w1.grownBy w2 r) : w.grownBy w2 r := ⟨k.os.trans h.os, k.tape.trans h.tape, k.output.trans h.output, Nat.le_trans h.size k.size, fun i hi hr => (k.block i (Nat.lt_of_lt_of_le hi h.size) hr).trans (h.block i hi hr)⟩
theorem gb_box {g : Nat} {t : TypeId} {cs : Array Value} (h : Has w g t cs) (k : w.grownBy w' (some blk)) (hne : blk < g) : Has w' g t cs := h.grown k (fun e => by injection e with e; omega)
end
def DataV (g sf : Nat) (lb sb : Array Value) : Value := .agg #[.func (.func g) #[] lb, .func (.func sf) #[] sb]
def SrtEnd {α : Type} (I : Array α → World → Prop) (blk : Nat) (res : Value) (d' : Array α) (W : World) (e : Ending) (w' : World) : Prop := e = .returned res ∧ I d' w' ∧ W.grownBy w' (some blk)
section
variable {α : Type} [Inhabited α] {lt : α → α → Bool} {I : Array α → World → Prop} {blk n low g sf : Nat} {lb sb : Array Value}
theorem Srt.drew (h : Srt lt I blk n low g sf lb sb) {d : Array α} {W : World} (hI : I d W) : I d W.drew := h.below d W _ hI (Below.refl _ W).drew
theorem swp_size (d : Array α) (i j : Nat) : (swp d i j).size = d.size := by simp [swp]
theorem insInner_step {a j : Nat} {d : Array α} (h : a < j) (hl : lt d[j]! d[j - 1]! = true) : insInner lt a j d = insInner lt a (j - 1) (swp d j (j - 1)) := by
  obtain ⟨k, rfl⟩ : ∃ k, j = k + 1 := ⟨j - 1, by omega⟩
  simp only [Nat.add_sub_cancel] at hl
  simp [insInner, hl, show a < k + 1 from h]
theorem insInner_end {a j : Nat} {d : Array α} (h : j ≤ a ∨ lt d[j]! d[j - 1]! = false) : insInner lt a j d = d := by
  cases j with
  | zero => rfl
  | succ k =>
    rcases h with h | h
    · simp only [insInner]
      rw [if_neg (by simp; omega)]
    · simp only [Nat.add_sub_cancel] at h
      simp [insInner, h]
theorem insOuter_more {a b i : Nat} {d : Array α} (h : i < b) : insOuter lt a b i d = insOuter lt a b (i + 1) (insInner lt a i d) := by
  rw [insOuter.eq_def, if_pos h]
theorem insOuter_end {a b i : Nat} {d : Array α} (h : ¬ i < b) : insOuter lt a b i d = d := by
  rw [insOuter.eq_def, if_neg h]
def boxW (g sf : Nat) (lb sb : Array Value) (W : World) : World := W.alloc (.cells #[.func (.func g) #[] lb, .func (.func sf) #[] sb] 92)
theorem boxW_has (W : World) : Has (boxW g sf lb sb W) W.heap.size 92 #[.func (.func g) #[] lb, .func (.func sf) #[] sb] := Has.made W _ _
theorem boxW_below (W : World) : Below W.heap.size W (boxW g sf lb sb W) := (Below.refl _ W).alloc (Nat.le_refl _) _

structure SS {α : Type} [Inhabited α] (I : Array α → World → Prop) (blk g sf : Nat) (lb sb : Array Value) (W : World) (d : Array α) (w : World) : Prop where
  inv : I d w
  gr : W.grownBy w (some blk)
  box : Has w W.heap.size 92 #[.func (.func g) #[] lb, .func (.func sf) #[] sb]
  low : blk < W.heap.size
section
variable {W w w' : World} {d d' : Array α}
theorem SS.start (S : Srt lt I blk n low g sf lb sb) (hI : I d W) : SS I blk g sf lb sb W d (W.alloc (.cells #[.func (.func g) #[] lb, .func (.func sf) #[] sb] 92)) :=
  ⟨S.below _ _ _ hI (boxW_below W), gb_below (boxW_below W) _, boxW_has W, S.blk d W hI⟩
theorem SS.below (S : Srt lt I blk n low g sf lb sb) (h : SS I blk g sf lb sb W d w) (hb : Below w.heap.size w w') : SS I blk g sf lb sb W d w' :=
  ⟨S.below _ _ _ h.inv hb, gb_trans h.gr (gb_below hb _), h.box.below hb h.box.lt, h.low⟩
theorem SS.less (S : Srt lt I blk n low g sf lb sb) (h : SS I blk g sf lb sb W d w) (i j : Nat) (hi : i < n) (hj : j < n) :
    Calls Tryz.prog g (#[.int .i64 (i : Int), .int .i64 (j : Int)] ++ lb) w fun e w' => e = .returned (.bool (lt d[i]! d[j]!)) ∧ SS I blk g sf lb sb W d w' :=
  (S.less d w i j h.inv hi hj).mono fun e w' ⟨he, hb⟩ => ⟨he, h.below S hb⟩
theorem SS.swap (S : Srt lt I blk n low g sf lb sb) (h : SS I blk g sf lb sb W d w) (i j : Nat) (hi : i < n) (hj : j < n) :
    ∃ w', (callFunc sf (#[.int .i64 (i : Int), .int .i64 (j : Int)] ++ sb)).run Tryz.prog w = .ok (.value (.tuple #[])) w' ∧ SS I blk g sf lb sb W (swp d i j) w' := by
  obtain ⟨w', h1, h2, h3⟩ := S.swap d w i j h.inv hi hj
  exact ⟨w', h1, h2, gb_trans h.gr h3, gb_box h.box h3 h.low, h.low⟩
theorem SS.call (h : SS I blk g sf lb sb W d w) {res : Value} {e : Ending} (k : SrtEnd I blk res d' w e w') : e = .returned res ∧ SS I blk g sf lb sb W d' w' :=
  ⟨k.1, k.2.1, gb_trans h.gr k.2.2, gb_box h.box k.2.2 h.low, h.low⟩
theorem SS.done (h : SS I blk g sf lb sb W d w) (res : Value) : SrtEnd I blk res d W (.returned res) w := ⟨rfl, h.inv, h.gr⟩
end

set_option maxRecDepth 100000 in
set_option maxHeartbeats 2000000 in
theorem insSort_any (S : Srt lt I blk n low g sf lb sb) (a b : Nat) (d : Array α) (W : World) (hI : I d W) (hab : a ≤ b) (hb : b ≤ n) :
    Calls Tryz.prog 95 #[.agg #[.func (.func g) #[] lb, .func (.func sf) #[] sb], .int .i64 (a : Int), .int .i64 (b : Int)] W (SrtEnd I blk (.tuple #[]) (insertionSort lt d a b) W) := by
  have HS := Lib.hid S
  have hmost := S.most
  have eg := S.enters
  have H0 := Lib.hid (SS.start S hI)
  clear S hI
  go_enter Tryz.func95, Tryz.ntmps95
  go_wp2
  go_loopw [6] (fun vi wr => ∃ (i : Nat) (dk : Array α), vi = .int .i64 (i : Int) ∧ a < i ∧ i ≤ b + 1 ∧ SS I blk g sf lb sb W dk wr ∧ insOuter lt a b i dk = insertionSort lt d a b) (fun vi _ => b + 1 - (intOf vi).toNat)
  case atStart => exact ⟨a + 1, d, by go_num, by omega, by omega, H0.out, rfl⟩
  case round =>
    obtain ⟨i, dk, rfl, hai, hib, h1, h4⟩ := hrel
    have H1 := Lib.hid h1
    have H4 := Lib.hid h4
    clear h1 h4
    by_cases hlt : i < b
    · obtain ⟨wo, hwo⟩ : ∃ wo : World, wo = wr := ⟨_, rfl⟩
      subst hwo
      have l1 : (i : Int) < (b : Int) := by omega
      go_wp2
      go_loopw [7] (fun vj wr => ∃ (j : Nat) (dj : Array α), vj = .int .i64 (j : Int) ∧ a ≤ j ∧ j ≤ i ∧ SS I blk g sf lb sb W dj wr ∧ insInner lt a j dj = insInner lt a i dk) (fun vj _ => (intOf vj).toNat)
      case atStart => exact ⟨i, dk, rfl, by omega, Nat.le_refl _, H1.out, rfl⟩
      case round =>
        obtain ⟨j, dj, rfl, haj, hji, h1, h4⟩ := hrel
        have K1 := Lib.hid h1
        have K4 := Lib.hid h4
        have c0 := h1.box.cell0
        clear h1 h4
        by_cases hja : a < j
        · have j1 : (a : Int) < (j : Int) := by omega
          have hl := K1.out.less HS.out j (j - 1) (by omega) (by omega)
          rw [show (((j - 1 : Nat) : Int)) = (j : Int) - 1 by omega] at hl
          cases hv : lt dj[j]! dj[j - 1]!
          · rw [hv] at hl
            have HI := Lib.hid (insInner_end (lt := lt) (a := a) (Or.inr hv))
            go_wp2_with (go_at_fn g; refine hl.mono ?_; rintro e w5 ⟨rfl, h5⟩; have L1 := Lib.hid h5; clear h5)
            go_roundw
            case rel => exact ⟨i + 1, dj, by go_num, by omega, by omega, L1.out, by rw [← H4.out, insOuter_more hlt, ← K4.out, HI.out]⟩
            case measure => simp [intOf]; omega
          · rw [hv] at hl
            have HI := Lib.hid (insInner_step (lt := lt) hja hv)
            go_wp2_with (go_at_fn g; refine hl.mono ?_; rintro e w5 ⟨rfl, h5⟩; have c1 := h5.box.cell1; have L1 := Lib.hid h5; clear h5)
            obtain ⟨w6, hs, h6⟩ := L1.out.swap HS.out j (j - 1) (by omega) (by omega)
            rw [show (((j - 1 : Nat) : Int)) = (j : Int) - 1 by omega] at hs
            have M1 := Lib.hid h6
            clear h6
            rw [hs, Oper.upon_value]
            go_wp2
            go_roundw
            case rel => exact ⟨j - 1, swp dj j (j - 1), by go_num, by omega, by omega, M1.out, by rw [← K4.out, HI.out]⟩
            case measure => simp [intOf]; omega
        · have j1 : ¬ (a : Int) < (j : Int) := by omega
          have HI := Lib.hid (insInner_end (lt := lt) (a := a) (j := j) (d := dj) (Or.inl (by omega)))
          go_wp2
          go_roundw
          case rel => exact ⟨i + 1, dj, by go_num, by omega, by omega, K1.out, by rw [← H4.out, insOuter_more hlt, ← K4.out, HI.out]⟩
          case measure => simp [intOf]; omega
    · have l1 : ¬ (i : Int) < (b : Int) := by omega
      go_wp2
      go_end0
      have := H1.out.done (.tuple #[])
      rwa [← insOuter_end (lt := lt) (a := a) (d := dk) hlt, H4.out] at this
theorem rev_more {i j : Nat} {d : Array α} (h : i < j) : reverseLoop i j d = reverseLoop (i + 1) (j - 1) (swp d i j) := by
  rw [reverseLoop.eq_def, if_pos h]
theorem rev_end {i j : Nat} {d : Array α} (h : ¬ i < j) : reverseLoop i j d = d := by
  rw [reverseLoop.eq_def, if_neg h]
set_option maxRecDepth 100000 in
set_option maxHeartbeats 2000000 in
theorem revRange_any (S : Srt lt I blk n low g sf lb sb) (a b : Nat) (d : Array α) (W : World) (hI : I d W) (hab : a < b) (hb : b ≤ n) :
    Calls Tryz.prog 99 #[.agg #[.func (.func g) #[] lb, .func (.func sf) #[] sb], .int .i64 (a : Int), .int .i64 (b : Int)] W (SrtEnd I blk (.tuple #[]) (reverseRange d a b) W) := by
  have HS := Lib.hid S
  have hmost := S.most
  have H0 := Lib.hid (SS.start S hI)
  clear S hI
  go_enter Tryz.func99, Tryz.ntmps99
  go_wp2
  go_loopw [6, 7] (fun vi vj wr => ∃ (i j : Nat) (dk : Array α), vi = .int .i64 (i : Int) ∧ vj = .int .i64 (j : Int) ∧ j < b ∧ i ≤ j + 1 ∧ SS I blk g sf lb sb W dk wr ∧ reverseLoop i j dk = reverseRange d a b) (fun _ vj _ => (intOf vj).toNat)
  case atStart => exact ⟨a, b - 1, d, rfl, by go_num, by omega, by omega, H0.out, rfl⟩
  case round =>
    obtain ⟨i, j, dk, rfl, rfl, hj, hij, h1, h4⟩ := hrel
    have H1 := Lib.hid h1
    have H4 := Lib.hid h4
    have c1 := h1.box.cell1
    clear h1 h4
    by_cases hlt : i < j
    · have l1 : (i : Int) < (j : Int) := by omega
      go_wp2
      obtain ⟨w6, hs, h6⟩ := H1.out.swap HS.out i j (by omega) (by omega)
      have M1 := Lib.hid h6
      clear h6
      rw [hs, Oper.upon_value]
      go_wp2
      go_roundw
      case rel => exact ⟨i + 1, j - 1, _, by go_num, by go_num, by omega, by omega, M1.out, by rw [← H4.out, rev_more hlt]⟩
      case measure => simp [intOf]; omega
    · have l1 : ¬ (i : Int) < (j : Int) := by omega
      go_wp2
      go_end0
      have := H1.out.done (.tuple #[])
      rwa [← rev_end (d := dk) hlt, H4.out] at this
end

end Go.Proofs.YtglkmpglpddfdaaGreatDoor
end
