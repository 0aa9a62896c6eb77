/- Steps of the laws of layer 6 that came in, and whether they are small: no statement. -/
import Derived.Test.YthbchloghbfnmaaDaw
namespace Go.Proofs.Ythbchloghbfnmaa
open Go.RowKit
set_option linter.unusedVariables false

/-- A step, and where its last field lies. -/
structure Sx where
  s : St
  ka : Option Addr
  kn : Nat
  kc : Nat
def Sx.kv (x : Sx) : Value := .slice x.ka x.kn x.kc
theorem Sx.kv1 (x : Sx) : x.kv.oneCell' = true := rfl
/-- A slice of steps that came in. -/
structure StepsA (w : World) (A : Option Addr) (n : Nat) (l : List Sx) : Prop where
  len : n = l.length
  cells : 0 < n → ∃ b off, A = some ⟨b, off, none⟩ ∧ b < w.heap.size ∧ ∀ i x, l[i]? = some x →
    w.cell? ⟨b, off + i * 6, none⟩ = some (.int .i64 x.s.kind) ∧ w.cell? ⟨b, off + i * 6 + 1, none⟩ = some (.int .i64 x.s.region) ∧ w.cell? ⟨b, off + i * 6 + 2, none⟩ = some (.int .i64 x.s.page) ∧
    w.cell? ⟨b, off + i * 6 + 3, none⟩ = some (.int .u8 (x.s.fill.toNat : Int)) ∧ w.cell? ⟨b, off + i * 6 + 4, none⟩ = some (.bool x.s.short) ∧ w.cell? ⟨b, off + i * 6 + 5, none⟩ = some (.slice x.ka x.kn x.kc)
  keep : ∀ x ∈ l, x.kn ≤ x.kc ∧ x.kc ≤ maxLen ∧ x.s.page ≤ 9223372036854775807 ∧ x.kn = x.s.keep.length ∧ Reads w x.ka (x.s.keep.map txtV) ∧ (∀ s ∈ x.s.keep, s.length ≤ 9223372036854775807) ∧ (0 < x.kn → ∀ a, x.ka = some a → a.block < w.heap.size)
theorem StepsA.below {w w' : World} {A : Option Addr} {n : Nat} {l : List Sx} (h : StepsA w A n l) (hb : Below w.heap.size w w') : StepsA w' A n l :=
  ⟨h.len, fun hn => by
    obtain ⟨b, off, hA, hlt, hc⟩ := h.cells hn
    refine ⟨b, off, hA, Nat.lt_of_lt_of_le hlt hb.size, fun i x hi => ?_⟩
    obtain ⟨c0, c1, c2, c3, c4, c5⟩ := hc i x hi
    have q := fun j => hb.cell (p := ⟨b, j, none⟩) hlt
    exact ⟨(q _).trans c0, (q _).trans c1, (q _).trans c2, (q _).trans c3, (q _).trans c4, (q _).trans c5⟩, fun x hx => by
    obtain ⟨h1, h2, h3, h4, h5, h6, h7⟩ := h.keep x hx
    exact ⟨h1, h2, h3, h4, h5.below hb (fun hp a ha => h7 (by rw [h4]; simpa using hp) a ha), h6, fun hp a ha => Nat.lt_of_lt_of_le (h7 hp a ha) hb.size⟩⟩
/-- Step k, in any later world. -/
theorem StepsA.at_ {w w' : World} {A : Option Addr} {n : Nat} {l : List Sx} (h : StepsA w A n l) (hb : Below w.heap.size w w') {k : Nat} (hk : k < n) :
    ∃ x b off, l[k]? = some x ∧ A = some ⟨b, off, none⟩ ∧ b < w.heap.size ∧ w'.cell? ⟨b, off + k * 6, none⟩ = some (.int .i64 x.s.kind) ∧ w'.cell? ⟨b, off + k * 6 + 1, none⟩ = some (.int .i64 x.s.region) ∧ w'.cell? ⟨b, off + k * 6 + 2, none⟩ = some (.int .i64 x.s.page) ∧
    w'.cell? ⟨b, off + k * 6 + 3, none⟩ = some (.int .u8 (x.s.fill.toNat : Int)) ∧ w'.cell? ⟨b, off + k * 6 + 4, none⟩ = some (.bool x.s.short) ∧ w'.cell? ⟨b, off + k * 6 + 5, none⟩ = some (.slice x.ka x.kn x.kc) := by
  obtain ⟨x, hx⟩ : ∃ q, l[k]? = some q := ⟨_, List.getElem?_eq_getElem (by have := h.len; omega)⟩
  obtain ⟨b, off, hA, hlt, hc⟩ := h.cells (by omega)
  obtain ⟨c0, c1, c2, c3, c4, c5⟩ := hc k x hx
  have q := fun j => hb.cell (p := ⟨b, j, none⟩) hlt
  exact ⟨x, b, off, hx, hA, hlt, (q _).trans c0, (q _).trans c1, (q _).trans c2, (q _).trans c3, (q _).trans c4, (q _).trans c5⟩
theorem StepsA.txts {w w' : World} {A : Option Addr} {n : Nat} {l : List Sx} (h : StepsA w A n l) (hb : Below w.heap.size w w') {x : Sx} (hx : x ∈ l) (hs : x.s.keep.length ≤ 8) : Txts w' x.ka x.kn x.s.keep := by
  obtain ⟨h1, h2, h3, h4, h5, h6, h7⟩ := h.keep x hx
  exact ⟨h4, h5.below hb (fun hp a ha => h7 (by rw [h4]; simpa using hp) a ha), by omega, h6⟩

def smB (l : List Sx) : Bool := l.all (fun x => decide (x.s.keep.length ≤ 8)) && decide (l.length ≤ 40)
theorem smB_len {l : List Sx} (h : smB l = true) : l.length ≤ 40 := by simp [smB] at h; exact h.2
theorem smB_keep {l : List Sx} (h : smB l = true) {x : Sx} (hx : x ∈ l) : x.s.keep.length ≤ 8 := by simp [smB] at h; exact h.1 x hx
set_option maxRecDepth 100000 in
set_option maxHeartbeats 2000000 in
theorem small_any (A : Option Addr) (n c : Nat) (l : List Sx) (w : World) (h : StepsA w A n l) (hn : n ≤ 9223372036854775807) :
    Calls Try.prog 9 #[.slice A n c] w fun e w' => e = .returned (.bool (smB l)) ∧ w = w' := by
  have HH := Lib.hid h
  have HL := Lib.hid h.len
  clear h
  go_enter Try.func9, Try.ntmps9
  go_wp2
  go_loopw [3] (fun i wr => ∃ k : Nat, k ≤ n ∧ i = .int .i64 (k : Int) ∧ (∀ j, j < k → ∀ x, l[j]? = some x → x.s.keep.length ≤ 8) ∧ wr = w) (fun i _ => n - (intOf i).toNat)
  case atStart => exact ⟨0, Nat.zero_le _, rfl, fun j hj => absurd hj (by omega), rfl⟩
  case round =>
    obtain ⟨k, hk, rfl, hall, rfl⟩ := hrel
    have HA := Lib.hid hall
    clear hall
    by_cases hlt : k < n
    · obtain ⟨x, b, off, hx, rfl, hbl, c0, c1, c2, c3, c4, c5⟩ := HH.out.at_ (Below.refl _ wr) hlt
      have HX := Lib.hid hx
      have HK := Lib.hid (HH.out.keep x (List.mem_of_getElem? hx))
      have hkn : Hid (x.kn = x.s.keep.length) := Lib.hid HK.out.2.2.2.1
      clear hx c0 c1 c2 c3 c4
      obtain ⟨kn, hkn2⟩ : ∃ q, x.kn = q := ⟨_, rfl⟩
      rw [hkn2] at c5 hkn
      have i1 : (k : Int) < n := by omega
      by_cases h8 : kn ≤ 8
      · have e8 : decide ((8 : Int) < (kn : Int)) = false := by simp; omega
        clear HK hkn2
        go_wp2
        go_roundw
        case rel =>
          refine ⟨k + 1, by omega, by go_num, fun j hj y hy => ?_, trivial⟩
          by_cases e : j = k
          · subst e
            rw [HX.out] at hy
            injection hy with hy
            rw [← hy, ← hkn.out]
            exact h8
          · exact HA.out j (by omega) y hy
        case measure => simp [intOf]; omega
      · have e8 : decide ((8 : Int) < (kn : Int)) = true := by simp; omega
        have hr : smB l = false := by
          cases hq : smB l with
          | false => rfl
          | true =>
            have := smB_keep hq (List.mem_of_getElem? HX.out)
            have := hkn.out
            omega
        have HR := Lib.hid hr
        clear HK hkn2 hr
        go_wp2
        go_ret
        exact ⟨by rw [HR.out]; rfl, rfl⟩
    · obtain rfl : k = n := by omega
      have hr : smB l = decide ((k : Int) ≤ 40) := by
        unfold smB
        have h1 : l.all (fun x => decide (x.s.keep.length ≤ 8)) = true := by
          rw [List.all_eq_true]
          intro x hx
          obtain ⟨j, hj⟩ := List.mem_iff_getElem?.1 hx
          have hjl := (List.getElem?_eq_some_iff.1 hj).1
          simpa using HA.out j (by have := HL.out; omega) x hj
        rw [h1, ← HL.out, Bool.true_and]
        exact decide_eq_decide.2 (by omega)
      have HR := Lib.hid hr
      clear hr
      go_wp2
      go_ret
      exact ⟨by rw [HR.out]; rfl, rfl⟩

/-! ### More of disks -/
theorem str_reads {w : World} {n c : Nat} {A : Option Addr} {l : List UInt8} (hn : n = l.length) (h : Reads w A (l.map byteV)) : (convert 37 9 (.slice A n c)).run Try.prog w = .ok (.string ⟨l.toArray⟩) w :=
  run_string_of w 37 9 5 Try.underlying37 Try.underlying5 Try.underlying9 hn h
section
variable {w0 w w' : World} {T : Tg} {d D A N : Nat} {rs : List Rg}
/-- A disk stands where none of the marked blocks turns. -/
theorem Dk.marked (h : Dk w T d D A rs) (hk : ∀ x t, T x = some t → w'.heap[x]? = w.heap[x]?) : Dk w' T d D A rs := by
  obtain ⟨cs, hA, hs⟩ := h.blk
  refine ⟨(hk D _ h.td).trans h.hd, h.td, h.ta, ⟨cs, (hk A _ h.ta).trans hA, hs⟩, fun i r hr => ?_⟩
  obtain ⟨m1, m2, v, ha⟩ := h.at_ i r hr
  exact ⟨m1, m2, v, ha.keep (fun j _ => cell_heap (hk A _ h.ta)) (fun x j _ hT hlt => ⟨hk x _ hT, rfl⟩) rfl⟩
theorem Dz.away (h : Dz w0 w T d D A N rs) {p : Addr} (hp : T p.block = none) (hp0 : w0.heap.size ≤ p.block) (u : Value) : Dz w0 (w.setCell p u) T d D A N rs :=
  ⟨h.dk.marked (fun x t hx => setCell_heap_other w p u x (fun e => by rw [e, hp] at hx; cases hx)), fun x t hx => by rw [setCell_hsize]; exact h.lo x t hx, h.bel.setCell hp0 u, h.few⟩
end
theorem Bk.reads {w : World} {T : Tg} {g : Nat} {t : TypeId} {l : List UInt8} (h : Bk w T g t (l.map byteV).toArray) : Reads w (some ⟨g, 0, none⟩) (l.map byteV) := fun _ => ⟨g, 0, rfl, fun j u hj => by rw [h.has.cell, Nat.zero_add]; simpa using hj⟩

end Go.Proofs.Ythbchloghbfnmaa
