import Derived.Test.YtglkmpglpddfdaaGreatDoorJ34
import Derived.Test.YtglkmpglpddfdaaGreatDoorJSro
import Derived.Test.YtglkmpglpddfdaaGreatDoorJ39
import Derived.Test.YtglkmpglpddfdaaGreatDoorJ32
import Derived.Test.YtglkmpglpddfdaaGreatDoorJShel
import Derived.Lib.BufferKept
/- Of a claim's texts, joined: Cpv Cpu. No statement but in the last. -/
section
namespace Go.Proofs.YtglkmpglpddfdaaGreatDoor
open Go.RowKit Go.Sort
set_option linter.unusedVariables false

theorem compC_all : CompC 1000000 := fun base v l w _ hl ho _ => comp_any base v l w ho hl
theorem less_c : LessC := fun x y w => gLess_any x y w trivial
theorem sortC_all : SortC 1000000 := by
  intro B base vn vu vq v l w ht hl hB ho hb
  by_cases h1 : l.length ≤ 1
  · exact sortC_one B base vn vu vq v l w ht h1 hB ho hb
  · refine (sortG_any less_c B base vn vu vq v l w (by omega) hl hB ho).mono ?_
    rintro e w' ⟨rfl, hg, d', hp, hs, hr⟩
    have hm := perm_mem (n := l.length) (by simp) hp
    exact ⟨rfl, hg, d'.toList, by simp [hm.1], comp_ins (by simpa using hm.2) (sorted_list hm.1 hs), hr⟩
theorem linesN_len (l : List UInt8) : (linesN l).length ≤ l.length + 1 := by
  induction l with
  | nil => simp [linesN]
  | cons b t ih =>
    unfold linesN
    split
    · simp; omega
    · split
      · simp
      · rename_i x r h
        rw [h] at ih
        simp only [List.length_cons] at ih ⊢
        omega
theorem coParse_any (L : List UInt8) (w : World) (ht : Base5 w) (hl : L.length ≤ 500000) : Calls Tryz.prog 7 #[.string ⟨L.toArray⟩] w (ParseEnd (parseN L) w) :=
  coParse_few 1000000 sortC_all compC_all L w ht hl (fun c h => by
    have hr := (parse_rel (linesN L) 1 0 cf0 cf0 okf0 ⟨rfl, rfl, rfl, rfl⟩).2 (by rw [h])
    rw [h] at hr
    have := hr.2.few
    have := linesN_len L
    simp only at *
    omega)

end Go.Proofs.YtglkmpglpddfdaaGreatDoor
end

section
namespace Go.Proofs.YtglkmpglpddfdaaGreatDoor
open Go.RowKit
set_option linter.unusedVariables false

def Bd (B b : Nat) (l : List UInt8) (w : World) : Prop := Lib.IsBuilderF 67 5 B b (l.map byteV) w
theorem cells_str (l : List UInt8) : Lib.strCells ⟨l.toArray⟩ = l.map byteV := by simp [Lib.strCells, byteV]
theorem atF_below {T e : TypeId} {B b : Nat} {p : Value} {bs : List Value} {w w' : World} (h : Lib.BuilderAtF T e B b p bs w) (hb : Below w.heap.size w w') : Lib.BuilderAtF T e B b p bs w' := by
  have hl := h.lt
  obtain ⟨h1, v, h2, h3, h4⟩ := h
  exact ⟨h1, v, (hb.block b hl).trans h2, h3.kept (row := none) ⟨hb.os, hb.tape, hb.output, hb.size, fun i hi _ => hb.block i hi⟩ (by cases v.ownBlock <;> simp), h4⟩
theorem Bd.below {B b : Nat} {l : List UInt8} {w w' : World} (h : Bd B b l w) (hb : Below w.heap.size w w') : Bd B b l w' := by
  rcases h with h | h
  · exact .inl (atF_below h hb)
  · exact .inr (atF_below h hb)
def BdEnd (B b : Nat) (l : List UInt8) (w : World) (e : Ending) (w' : World) : Prop := e = .returned (.tuple #[]) ∧ Bd B b l w' ∧ Below B w w' ∧ Lib.OthersKept 5 (some b) w w'
def joinL (xs : List (List UInt8)) : List UInt8 := Lib.join xs [32]
theorem write_any (B b : Nat) (l x : List UInt8) (w : World) (h : Bd B b l w) (hl : l.length + x.length ≤ 140737488355328) (hBw : B ≤ w.heap.size) :
    Calls Tryz.prog 74 #[.pointer (some ⟨b, 0, none⟩), .string ⟨x.toArray⟩] w fun e w' => (∃ v, e = .returned v) ∧ Bd B b (l ++ x) w' ∧ Below B w w' ∧ Lib.OthersKept 5 (some b) w w' := by
  refine (Tryz.Builder_WriteString_j B b (l.map byteV) ⟨x.toArray⟩ w h (by rw [List.length_map, size_list]; exact hl) hBw).mono ?_
  rintro e w' ⟨rfl, h1, h2, h3⟩
  rw [cells_str, ← List.map_append] at h1
  exact ⟨⟨_, rfl⟩, .inr h1, h2, h3⟩
theorem join_any (bk o c : Nat) (xs : List (List UInt8)) (w : World) (hc : ∀ (j : Nat) x, xs[j]? = some x → w.cell? ⟨bk, o + j, none⟩ = some (.string ⟨x.toArray⟩)) (hbk : bk < w.heap.size) (hN : xs.length ≤ 1000) (hcap : xs.length ≤ c) (hlen : (joinL xs).length ≤ 140737488355328) :
    Calls Tryz.prog 75 #[.slice (some ⟨bk, o, none⟩) xs.length c, .string ⟨#[32]⟩] w fun e w' => e = .returned (.string ⟨(joinL xs).toArray⟩) ∧ Below w.heap.size w w' := by
  have hm : (xs.map fun x => (⟨x.toArray⟩ : ByteArray)).map (·.data.toList) = xs := by
    rw [List.map_map]
    have : ((fun y : ByteArray => y.data.toList) ∘ fun x : List UInt8 => (⟨x.toArray⟩ : ByteArray)) = id := by funext x; simp
    rw [this, List.map_id]
  have h := Tryz.strings_Join bk o c (xs.map fun x => (⟨x.toArray⟩ : ByteArray)) ⟨#[32]⟩ w (fun j x hj => by
    rw [List.getElem?_map] at hj
    cases hx : xs[j]? with
    | none => rw [hx] at hj; exact nomatch hj
    | some y => rw [hx] at hj; injection hj with hj; subst hj; exact hc j y hx) hbk (by rw [List.length_map]; omega) (by rw [List.length_map]; exact hcap) (by rw [hm]; exact hlen)
  rw [List.length_map, hm] at h
  exact h
set_option maxRecDepth 100000 in
set_option maxHeartbeats 4000000 in
theorem coshow_any (B b bk o c n : Nat) (l : List UInt8) (xs : List (List UInt8)) (w : World) (h : Bd B b l w) (hBw : B ≤ w.heap.size) (hn : n = xs.length) (hc : ∀ (j : Nat) x, xs[j]? = some x → w.cell? ⟨bk, o + j, none⟩ = some (.string ⟨x.toArray⟩)) (hbk : bk < w.heap.size) (hN : n ≤ 1000) (hcap : n ≤ c)
    (hlen : l.length + (joinL xs).length + 1 ≤ 140737488355328) :
    Calls Tryz.prog 40 #[.pointer (some ⟨b, 0, none⟩), .slice (some ⟨bk, o, none⟩) n c] w (BdEnd B b (l ++ joinL xs ++ [10]) w) := by
  subst hn
  have HJ := Lib.hid (join_any bk o c xs w hc hbk hN hcap (by omega))
  obtain ⟨J, hJ⟩ : ∃ J, joinL xs = J := ⟨_, rfl⟩
  rw [hJ] at HJ hlen ⊢
  have HH := Lib.hid h
  have HW1 := Lib.hid (fun w1 (h1 : Bd B b l w1) (hB : B ≤ w1.heap.size) => write_any B b l J w1 h1 (by omega) hB)
  have HW2 := Lib.hid (fun w1 (h1 : Bd B b (l ++ J) w1) (hB : B ≤ w1.heap.size) => write_any B b (l ++ J) [10] w1 h1 (by simp; omega) hB)
  clear h hc hJ hlen
  go_enter Tryz.func40, Tryz.ntmps40
  go_wp2_with (first
    | (go_at_call 75; (with_reducible refine HJ.out.mono ?_); rintro e w1 ⟨rfl, h1⟩; have B1 := Lib.hid h1; have D1 := Lib.hid (HH.out.below h1); have S1 := Lib.hid h1.size; clear h1)
    | (go_at_call 74; (with_reducible refine (HW1.out _ D1.out (Nat.le_trans hBw S1.out)).mono ?_); rintro e w2 ⟨⟨v, rfl⟩, h1, h2, h3⟩; have D2 := Lib.hid h1; have E2 := Lib.hid h2; have O2 := Lib.hid h3; clear h1 h2 h3)
    | (go_at_call 74; (refine (HW2.out _ D2.out (Nat.le_trans (Nat.le_trans hBw S1.out) E2.out.size)).mono ?_); rintro e w3 ⟨⟨v3, rfl⟩, h1, h2, h3⟩; have D3 := Lib.hid h1; have E3 := Lib.hid h2; have O3 := Lib.hid h3; clear h1 h2 h3))
  refine bodyPost_end (results_none rfl _ _ _) rfl ?_
  exact ⟨rfl, D3.out, ((B1.out.mono hBw).trans E2.out).trans E3.out, (((Lib.OthersKept.refl _ _ _).below B1.out).trans O2.out).trans O3.out⟩

end Go.Proofs.YtglkmpglpddfdaaGreatDoor
end
