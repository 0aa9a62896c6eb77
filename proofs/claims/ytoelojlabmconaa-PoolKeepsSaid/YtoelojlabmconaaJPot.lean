import Derived.Test.YtoelojlabmconaaJ19
/- Of a claim's texts, joined: Pot. No statement but in the last. -/
namespace Go.Proofs.Ytoelojlabmconaa
open Go.RowKit
set_option linter.unusedVariables false

theorem wp_named {c : Code} {P : Program} {Q : Exit → Act → World → Prop} {a : Act} {w : World} (h : ∀ a0, a0 = a → c.wp P Q a0 w) : c.wp P Q a w := h a rfl
theorem PoolU.less {X Y : Nat → Prop} {w : World} {A : Option Addr} {n c : Nat} {B : Option Addr} {m d : Nat} {p : Pd} (h : PoolU Y w A n c B m d p) (hXY : ∀ g, X g → Y g) : PoolU X w A n c B m d p := fun w2 hs hg => h w2 hs (fun g h1 h2 => hg g h1 (fun e => h2 (hXY g e)))
theorem PoolN.u2 {X : Nat → Prop} {w w' : World} {lo : Nat} {A : Option Addr} {n c : Nat} {B : Option Addr} {m d : Nat} {p : Pd} (h : PoolN w lo A n c B m d p) (b : Below w.heap.size w w') (hX : ∀ g, X g → g < lo ∨ w.heap.size ≤ g) : PoolU X w' A n c B m d p :=
  fun w2 hs hg => h w2 (Nat.le_trans b.size hs) (fun g h1 h2 => (hg g (Nat.lt_of_lt_of_le h2 b.size) (fun e => by have := hX g e; omega)).trans (b.block g h2))
structure TkP (p p2 : Pd) (top tt : Nat) (hs : List Bool) (tk : List Int) (N : Int) (nl : Nat) : Prop where
  kp : KpP p2 top tt (orL hs tk)
  out : ∀ x ∈ tk, 2 ≤ x ∧ x < (top : Int) ∧ hs.getD x.toNat false = false
  once : tk.Nodup
  len : nl = tk.length
  yes : 0 ≤ N ∧ N ≤ roomP p top → (nl : Int) = N
  few : nl ≤ 1000
structure TkS (W w : World) (bp gh gq : Nat) (hs : List Bool) (h : Int) (A : Option Addr) (n c : Nat) (B : Option Addr) (m d : Nat) (p : Pd) (h2 : Int) (A2 : Option Addr) (n2 c2 : Nat) (B2 : Option Addr) (m2 d2 : Nat) (p2 : Pd) (L : Option Addr) (tk : List Int) : Prop where
  old : KpS W w bp gh hs h A n c B m d p
  box : Has w gq 25 #[.int .i64 h2, .slice A2 n2 c2, .slice B2 m2 d2]
  po : PoolU (fun g => g = bp ∨ g = gh) w A2 n2 c2 B2 m2 d2 p2
  hi : p2.hi = h2
  row : Row w 3 W.heap.size L (tk.map (Value.int .i64))
section
variable {W w w' : World} {bp gh gq : Nat} {hs : List Bool} {h : Int} {A : Option Addr} {n c : Nat} {B : Option Addr} {m d : Nat} {p : Pd} {h2 : Int} {A2 : Option Addr} {n2 c2 : Nat} {B2 : Option Addr} {m2 d2 : Nat} {p2 : Pd} {L : Option Addr} {tk : List Int}
theorem TkS.below (s : TkS W w bp gh gq hs h A n c B m d p h2 A2 n2 c2 B2 m2 d2 p2 L tk) (b : Below w.heap.size w w') : TkS W w' bp gh gq hs h A n c B m d p h2 A2 n2 c2 B2 m2 d2 p2 L tk :=
  ⟨s.old.below b, s.box.below b s.box.lt, s.po.below b, s.hi, s.row.below b⟩
theorem TkS.mark (s : TkS W w bp gh gq hs h A n c B m d p h2 A2 n2 c2 B2 m2 d2 p2 L tk) (k : Nat) : TkS W (w.setCell ⟨gh, k, none⟩ (.bool true)) bp gh gq (hs.set k true) h A n c B m d p h2 A2 n2 c2 B2 m2 d2 p2 L tk := by
  refine ⟨s.old.mark k true, s.box.away (p := ⟨gh, k, none⟩) (fun e => ?_) _, s.po.turn (only_store (World.grownBy.refl w (some gh)) k (.bool true)) (Or.inr rfl), s.hi, s.row.store s.old.row (by decide) k _⟩
  have h1 := s.box
  have e : gq = gh := e
  rw [e] at h1
  exact h1.apart s.old.row (by decide) rfl
theorem TkS.put (s : TkS W w bp gh gq hs h A n c B m d p h2 A2 n2 c2 B2 m2 d2 p2 L tk) : KpS W (st3 w bp (.int .i64 h2) (.slice A2 n2 c2) (.slice B2 m2 d2)) bp gh hs h2 A2 n2 c2 B2 m2 d2 p2 := s.old.put s.po s.hi
theorem KpS.takeF {top t : Nat} {hs2 : List Bool} (s : KpS W w bp gh hs h A n c B m d p) (kp : KpP p top t hs2) (ht : top ≤ 1000) (N : Int) (hN : -9223372036854775808 ≤ N ∧ N ≤ 9223372036854775807) :
    Calls Try.prog 19 #[.agg #[.int .i64 h, .slice A n c, .slice B m d], .int .i64 (top : Int), .int .i64 N] w fun e w' => ∃ h2 A2 n2 c2 B2 m2 d2 p2 L nl cl tk, e = .returned (.tuple #[.agg #[.int .i64 h2, .slice A2 n2 c2, .slice B2 m2 d2], .slice L nl cl, .bool (decide (0 ≤ N ∧ N ≤ roomP p top))]) ∧ Below w.heap.size w w' ∧
      PoolN w' w.heap.size A2 n2 c2 B2 m2 d2 p2 ∧ p2.hi = h2 ∧ Row w' 3 w.heap.size L (tk.map (Value.int .i64)) ∧ TkP p p2 top t hs2 tk N nl := by
  refine (oTake13_own p h top N s.hi s.pool (kp.small ht) (by omega) hN).mono ?_
  rintro e w' ⟨h', A', n', c', B', m', d', ss, L, nl, cl, rfl, hb, hy, hn⟩
  by_cases hc : 0 ≤ N ∧ N ≤ roomP p top
  · obtain ⟨e1, e2, e3⟩ := hy hc
    obtain ⟨k, rfl⟩ : ∃ k : Nat, N = (k : Int) := ⟨N.toNat, by omega⟩
    rw [Int.toNat_natCast] at e1 e2 e3
    have hl : nl = (takenP p k).length := by have := e3.1; simpa using this.symm
    refine ⟨h', A', n', c', B', m', d', takeP p k, L, nl, cl, takenP p k, rfl, hb, e2.n, e1, Row.of_own e3, ⟨kp.take hc.2, kp.taken hc.2, incZ_nodup (takenP_inc kp.ok k), hl, fun _ => by rw [hl, takenP_len], ?_⟩⟩
    rw [hl, takenP_len]
    have h1 := hc.2
    have h2 := kp.ok.hi2
    have h3 := kp.ok.hiq
    have h4 := (kp.small ht).1
    have h5 := kp.count
    unfold roomP at h1
    have h6 : (listedP p).length = p.free.length + (catZ p.wait).length := by unfold listedP; rw [srtZ_len, List.length_append]
    split at h1 <;> omega
  · obtain ⟨e1, e2, e3⟩ := hn hc
    subst e3
    refine ⟨h', A', n', c', B', m', d', p, L, 0, cl, [], rfl, hb, e2.n, s.hi.trans e1.symm, Row.empty, ⟨by rw [orL_nil]; exact kp, fun x hx => (by cases hx), List.nodup_nil, rfl, fun h1 => absurd h1 hc, Nat.zero_le _⟩⟩
end
end Go.Proofs.Ytoelojlabmconaa
