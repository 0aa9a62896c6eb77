import Derived.Test.YtglkmpglpddfdaaGreatDoorJCok
/- Of a claim's texts, joined: Coa. No statement but in the last. -/
namespace Go.Proofs.YtglkmpglpddfdaaGreatDoor
open Go.RowKit
set_option linter.unusedVariables false

def t5a : List UInt8 := [108, 97, 98, 101, 108, 32, 97, 32, 57, 10, 108, 97, 98, 101, 108, 32, 98, 32, 57, 32, 35, 32, 98, 111, 116, 104, 10, 10, 117, 110, 100, 101, 114, 32, 97, 32, 98]
def t5b : List UInt8 := [108, 97, 98, 101, 108, 32, 97, 32, 51]
def t5c : List UInt8 := [108, 97, 98, 101, 108, 32, 97, 32, 57, 10, 108, 97, 98, 101, 108, 32, 98, 32, 57, 10, 117, 110, 100, 101, 114, 32, 97, 32, 98, 10]
def cf5 : Cf := ⟨[[97], [98]], [3, 2], [9, 9], []⟩
theorem ex5_l : parseL (linesN t5a) 1 cf0 = (cf5, none) := by decide +kernel
theorem ex5_b : parseL (linesN t5b) 1 cf0 = (cf0, some (1, 9)) := by decide +kernel
theorem ex5_cl : closeN [3, 2] = [3, 2] := closeN_lat _ lat32 (by decide)
theorem ex5_ok : checkC cf5 = true := by
  rw [okc_iff]
  refine ⟨lat32, rfl, rfl, by decide, ?_, ?_, ?_⟩
  all_goals
    intro i hi
    have : i = 0 ∨ i = 1 := by simp [cf5] at hi; omega
    rcases this with rfl | rfl <;> decide +kernel
theorem ex5_pa : parseN t5a = (cf5, 0, 0, 0) := by
  rw [parseN_end ex5_l]
  have e : ({ cf5 with up := closeN cf5.up } : Cf) = cf5 := by
    show (⟨_, closeN [3, 2], _, _⟩ : Cf) = cf5
    rw [ex5_cl]
    rfl
  rw [e, ex5_ok]
  rfl
theorem ex5_pb : parseN t5b = (cf0, 13, 1, 9) := parseN_bad ex5_b
theorem ex5_sh : showN cf5 = t5c := by
  unfold showN
  rw [if_pos ex5_ok]
  decide +kernel
theorem ex5_n1 : nameB [97] = true := by decide +kernel
theorem ex5_n2 : nameB [97, 49] = false := by decide +kernel

theorem box5 {w w' : World} {nA qA gA : Option Addr} {ug uo nc uc qc gc : Nat} (h : ArgC w ⟨nA, 2, nc, some ⟨ug, uo, none⟩, 2, uc, qA, 2, qc, gA, 0, gc⟩ cf5)
    (hb : Below (w.alloc (.cells #[.slice nA 2 nc, .slice (some ⟨ug, uo, none⟩) 2 uc, .slice qA 2 qc, .slice gA 0 gc] 28)).heap.size (w.alloc (.cells #[.slice nA 2 nc, .slice (some ⟨ug, uo, none⟩) 2 uc, .slice qA 2 qc, .slice gA 0 gc] 28)) w') :
    w'.cell? ⟨w.heap.size, 0, none⟩ = some (.slice nA 2 nc) ∧ w'.cell? ⟨w.heap.size, 1, none⟩ = some (.slice (some ⟨ug, uo, none⟩) 2 uc) ∧ w'.cell? ⟨w.heap.size, 2, none⟩ = some (.slice qA 2 qc) ∧ w'.cell? ⟨w.heap.size, 3, none⟩ = some (.slice gA 0 gc) ∧ w'.cell? ⟨ug, uo, none⟩ = some (.int .u64 3) ∧ w'.cell? ⟨ug, uo + 1, none⟩ = some (.int .u64 2) := by
  have k := (Has.made w 28 #[.slice nA 2 nc, .slice (some ⟨ug, uo, none⟩) 2 uc, .slice qA 2 qc, .slice gA 0 gc]).below hb (Has.made _ _ _).lt
  have u := ((h.below ((Below.refl _ w).alloc (Nat.le_refl _) _)).below hb).up.reads
  obtain ⟨g1, o1, e1, c1⟩ := u.at_ (show 0 < [3, 2].length by decide)
  obtain ⟨g2, o2, e2, c2⟩ := u.at_ (show 1 < [3, 2].length by decide)
  injection e1 with e1
  injection e1 with e1 e1'
  injection e2 with e2
  injection e2 with e2 e2'
  subst e1 e1' e2 e2'
  rw [k.cell, k.cell, k.cell, k.cell]
  exact ⟨by simp, by simp, by simp, by simp, by simpa [cf5] using c1, by simpa [cf5] using c2⟩
set_option maxRecDepth 100000 in
set_option maxHeartbeats 2000000 in
theorem awake05_any (w : World) (ht : Base5 w) : Calls Tryz.prog 6 #[] w fun e w' => e = .returned (.bool true) ∧ Below w.heap.size w w' := by
  have HT := Lib.hid ht
  clear ht
  have HP1 := Lib.hid (fun w1 (hb : Below w.heap.size w w1) => coParse_any t5a w1 (HT.out.below hb) (by decide))
  have HP2 := Lib.hid (fun w1 (hb : Below w.heap.size w w1) => coParse_any t5b w1 (HT.out.below hb) (by decide))
  have HN1 := Lib.hid (fun w1 (hb : Below w.heap.size w w1) => coName_any [97] w1 (HT.out.below hb) (by decide))
  have HN2 := Lib.hid (fun w1 (hb : Below w.heap.size w w1) => coName_any [97, 49] w1 (HT.out.below hb) (by decide))
  rw [ex5_pa] at HP1
  rw [ex5_pb] at HP2
  rw [ex5_n1] at HN1
  rw [ex5_n2] at HN2
  have HSh := Lib.hid (fun s w1 (hb : Below w.heap.size w w1) (h : ArgC w1 s cf5) (hn : s.nn ≤ 1000) (hu : s.un ≤ 1000) => coShow_any cf5 s w1 (HT.out.below hb) h hn hu)
  rw [ex5_sh] at HSh
  have HCk := Lib.hid (fun s w1 (hb : Below w.heap.size w w1) (h : ArgC w1 s cf5) (hn : s.nn ≤ 1000) (hu : s.un ≤ 1000) => coCheck_any cf5 s w1 (HT.out.below hb) h hn (Nat.le_trans hu (by decide)))
  rw [ex5_ok] at HCk
  unfold t5a at HP1
  unfold t5b at HP2
  unfold t5c at HSh
  have B0 := Lib.hid (Below.refl w.heap.size w)
  go_enter Tryz.func6, Tryz.ntmps6
  go_wp2_with (first
    | (go_at_call 7; (with_reducible refine (HP1.out _ B0.out).mono ?_); rintro e w1 ⟨s, rfl, h1, h2⟩; have B1 := Lib.hid (below_step B0.out h2); have A1 := Lib.hid h1; clear h1 h2; obtain ⟨nA, nn, nc, uA, un, uc, qA, qn, qc, gA, gn, gc⟩ := s; obtain rfl : nn = 2 := A1.out.names.len; obtain rfl : un = 2 := A1.out.up.len; obtain rfl : qn = 2 := A1.out.quotas.len; obtain rfl : gn = 0 := A1.out.grants.len; obtain ⟨ug, uo, rfl, _⟩ := A1.out.up.reads.at_ (show 0 < [3, 2].length by decide); unfold Cs.v
       have BA1 := Lib.hid (below_alloc' B1.out (.cells #[.slice nA 2 nc, .slice (some ⟨ug, uo, none⟩) 2 uc, .slice qA 2 qc, .slice gA 0 gc] 28))
       have HCel := Lib.hid (fun w' (hb : Below (w1.alloc (.cells #[.slice nA 2 nc, .slice (some ⟨ug, uo, none⟩) 2 uc, .slice qA 2 qc, .slice gA 0 gc] 28)).heap.size (w1.alloc (.cells #[.slice nA 2 nc, .slice (some ⟨ug, uo, none⟩) 2 uc, .slice qA 2 qc, .slice gA 0 gc] 28)) w') => box5 A1.out hb))
    | (go_at_call 7; (with_reducible refine (HP2.out _ BA1.out).mono ?_); rintro e w2 ⟨s, rfl, h1, h2⟩; have B2 := Lib.hid (below_step BA1.out h2); have R2 := Lib.hid h2; have A2 := Lib.hid h1; clear h1 h2; obtain ⟨nA2, nn2, nc2, uA2, un2, uc2, qA2, qn2, qc2, gA2, gn2, gc2⟩ := s; obtain rfl : nn2 = 0 := A2.out.names.len; obtain rfl : un2 = 0 := A2.out.up.len; obtain rfl : qn2 = 0 := A2.out.quotas.len; obtain rfl : gn2 = 0 := A2.out.grants.len; unfold Cs.v
       have BA2 := Lib.hid (below_alloc' B2.out (.cells #[.slice nA2 0 nc2, .slice uA2 0 uc2, .slice qA2 0 qc2, .slice gA2 0 gc2] 28))
       have RA2 := Lib.hid (below_alloc' R2.out (.cells #[.slice nA2 0 nc2, .slice uA2 0 uc2, .slice qA2 0 qc2, .slice gA2 0 gc2] 28))
       obtain ⟨b0, b1, b2, b3, u0, u1⟩ := HCel.out _ RA2.out)
    | (go_at_call 14; (refine (HSh.out ⟨nA, 2, nc, some ⟨ug, uo, none⟩, 2, uc, qA, 2, qc, gA, 0, gc⟩ _ BA2.out ?_ ?_ ?_).mono ?_); (exact (A1.out.below ((Below.refl _ w1).alloc (Nat.le_refl _) _)).below RA2.out); (show 2 ≤ 1000; omega); (show 2 ≤ 1000; omega); rintro e w3 ⟨rfl, h1⟩; have B3 := Lib.hid (below_step BA2.out h1); have R3 := Lib.hid (below_step RA2.out h1); clear h1 b0 b1 b2 b3 u0 u1; obtain ⟨b0, b1, b2, b3, u0, u1⟩ := HCel.out _ R3.out)
    | (go_at_call 12; (refine (HCk.out ⟨nA, 2, nc, some ⟨ug, uo, none⟩, 2, uc, qA, 2, qc, gA, 0, gc⟩ _ B3.out ?_ ?_ ?_).mono ?_); (exact (A1.out.below ((Below.refl _ w1).alloc (Nat.le_refl _) _)).below R3.out); (show 2 ≤ 1000; omega); (show 2 ≤ 1000; omega); rintro e w4 ⟨rfl, h1⟩; have B4 := Lib.hid (below_step B3.out h1); clear h1 b0 b1 b2 b3 u0 u1)
    | (go_at_call 10; (with_reducible refine (HN1.out _ B4.out).mono ?_); rintro e w5 ⟨rfl, h1⟩; have B5 := Lib.hid (below_step B4.out h1); clear h1)
    | (go_at_call 10; (with_reducible refine (HN2.out _ B5.out).mono ?_); rintro e w6 ⟨rfl, h1⟩; have B6 := Lib.hid (below_step B5.out h1); clear h1))
  go_ret
  exact ⟨rfl, B6.out⟩

end Go.Proofs.YtglkmpglpddfdaaGreatDoor
