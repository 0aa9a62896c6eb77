import Derived.Test.YtlfmmmgdilencaaJPid
/- Of a claim's texts, joined: PiCancel. No statement but in the last. -/
namespace Go.Proofs.Ytlfmmmgdilencaa
open Go.RowKit
set_option linter.unusedVariables false

structure Tw (W w : World) (P mb : Nat) (L : List Nat) (Q qb : Nat) (M : List Nat) : Prop where
  p : PB W w P mb L
  q : PB W w Q qb M
  ne : P ≠ Q
  nm : ∀ b, w.cell? ⟨P, 0, none⟩ = some (.map (some b)) → w.cell? ⟨Q, 0, none⟩ ≠ some (.map (some b))
theorem Pn.other {w w' : World} {P lo Q lo2 : Nat} {L M : List Nat} (h : Pn w P lo L) (h2 : Pn w Q lo2 M) (hne : P ≠ Q) (hnm : ∀ b, w.cell? ⟨P, 0, none⟩ = some (.map (some b)) → w.cell? ⟨Q, 0, none⟩ ≠ some (.map (some b))) (ht : Turn w w' Q lo2) : Pn w' P lo L ∧ w'.cell? ⟨P, 0, none⟩ = w.cell? ⟨P, 0, none⟩ := by
  obtain ⟨m, h⟩ := h
  obtain ⟨m2, h2⟩ := h2
  obtain ⟨b, hg, _, hb⟩ := ht
  have hbP : b ≠ P := by
    rintro rfl
    rcases hb with ⟨e, _⟩ | ⟨K, hm, _⟩
    · exact hne e
    · exact hm.apart h.hd rfl
  have hP : Has w' P 46 #[.map m] := h.hd.grown hg (fun e => hbP (by injection e with e; exact e.symm))
  refine ⟨⟨m, hP, ⟨h.mp.1, fun c e => ?_⟩, h.lo, h.srt, h.big⟩, (hP.cell 0).trans (h.hd.cell 0).symm⟩
  have hM := h.mp.2 c e
  refine hM.keep (hg.block c hM.lt (fun e2 => ?_))
  injection e2 with e2
  subst e2
  rcases hb with ⟨e3, k, h3⟩ | ⟨K, hm, hc⟩
  · rw [e3] at hM
    exact hM.apart h3 rfl
  · exact hnm _ (by rw [h.hd.cell 0, e]; rfl) hc
section
variable {W w w' : World} {P mb Q qb : Nat} {L M : List Nat}
theorem Pn.map_lt {w : World} {P lo : Nat} {L : List Nat} (h : Pn w P lo L) {b : Nat} (hc : w.cell? ⟨P, 0, none⟩ = some (.map (some b))) : b < w.heap.size := by
  obtain ⟨m, h⟩ := h
  have h1 := h.hd.cell 0
  rw [hc] at h1
  have h2 : Value.map (some b) = .map m := Option.some.inj h1
  injection h2 with h2
  exact (h.mp.2 b h2.symm).lt
theorem Tw.below (h : Tw W w P mb L Q qb M) (hb : Below w.heap.size w w') : Tw W w' P mb L Q qb M := by
  obtain ⟨m, hp⟩ := h.p.pn
  obtain ⟨m2, hq⟩ := h.q.pn
  refine ⟨h.p.below hb, h.q.below hb, h.ne, fun b h1 => ?_⟩
  rw [hb.cell (p := ⟨P, 0, none⟩) hp.hd.lt] at h1
  rw [hb.cell (p := ⟨Q, 0, none⟩) hq.hd.lt]
  exact h.nm b h1
theorem Tw.turnP {L' : List Nat} (h : Tw W w P mb L Q qb M) (h1 : PB W w' P mb L') (h2 : Turn2 w w' P mb) : Tw W w' P mb L' Q qb M := by
  obtain ⟨h3, h4⟩ := h.q.pn.other h.p.pn h.ne.symm (fun b e e2 => h.nm b e2 e) h2.1
  refine ⟨h1, ⟨h3, h1.bel, h.q.low⟩, h.ne, fun b e e2 => ?_⟩
  rw [h4] at e2
  rcases h2.2 b e with e3 | e3
  · exact h.nm b e3 e2
  · have := h.q.pn.map_lt e2
    omega
theorem Tw.turnQ {M' : List Nat} (h : Tw W w P mb L Q qb M) (h1 : PB W w' Q qb M') (h2 : Turn2 w w' Q qb) : Tw W w' P mb L Q qb M' := by
  obtain ⟨h3, h4⟩ := h.p.pn.other h.q.pn h.ne h.nm h2.1
  refine ⟨⟨h3, h1.bel, h.p.low⟩, h1, h.ne, fun b e e2 => ?_⟩
  rw [h4] at e
  rcases h2.2 b e2 with e3 | e3
  · exact h.nm b e e3
  · have := h.p.pn.map_lt e
    omega
theorem Tw.pinP (h : Tw W w P mb L Q qb M) (v : Nat) (hv : v < 2 ^ 64) (hl : L.length ≤ 1000) : Calls Try.prog 8 #[.pointer (some ⟨P, 0, none⟩), .int .u64 (v : Int)] w fun e w' => e = .returned (.tuple #[]) ∧ Tw W w' P mb (pinN L v) Q qb M := by
  refine (pinS v h.p hv hl).mono ?_
  rintro e w' ⟨rfl, h1, h2⟩
  exact ⟨rfl, h.turnP h1 h2⟩
theorem Tw.pinQ (h : Tw W w P mb L Q qb M) (v : Nat) (hv : v < 2 ^ 64) (hl : M.length ≤ 1000) : Calls Try.prog 8 #[.pointer (some ⟨Q, 0, none⟩), .int .u64 (v : Int)] w fun e w' => e = .returned (.tuple #[]) ∧ Tw W w' P mb L Q qb (pinN M v) := by
  refine (pinS v h.q hv hl).mono ?_
  rintro e w' ⟨rfl, h1, h2⟩
  exact ⟨rfl, h.turnQ h1 h2⟩
theorem Tw.unpinP (h : Tw W w P mb L Q qb M) (v : Nat) (hv : v < 2 ^ 64) (hl : L.length ≤ 1000) (hm : v ∈ L) : Calls Try.prog 11 #[.pointer (some ⟨P, 0, none⟩), .int .u64 (v : Int)] w fun e w' => e = .returned (.bool true) ∧ Tw W w' P mb (L.erase v) Q qb M := by
  refine (unpinS v h.p hv hl).mono ?_
  rintro e w' ⟨rfl, h1, h2⟩
  exact ⟨by simp [hm], h.turnP h1 h2⟩
end
theorem ArgU.cells12 {W : World} {A : Option Addr} {n c : Nat} {l : List Nat} (h : ArgU W A n c l) (h0 : 0 < n) : ∃ g off, A = some ⟨g, off, none⟩ ∧ ∀ k (hk : k < l.length) (w5 : World), Below W.heap.size W w5 → w5.cell? ⟨g, off + k, none⟩ = some (.int .u64 (l[k] : Int)) := by
  obtain ⟨g, off, rfl, hc⟩ := h.reads (by rw [List.length_map, ← h.len]; exact h0)
  refine ⟨g, off, rfl, fun k hk w5 b5 => ?_⟩
  have hlt := h.old h0 _ rfl
  exact (b5.cell (p := ⟨g, off + k, none⟩) hlt).trans (hc k _ (by rw [List.getElem?_map, List.getElem?_eq_getElem hk]; rfl))
set_option maxRecDepth 100000 in
set_option maxHeartbeats 8000000 in
theorem walkPinsCancel (A : Option Addr) (n c : Nat) (l : List Nat) (B : Option Addr) (m d : Nat) (r : List Nat) (W : World) (h : ArgU W A n c l) (h' : ArgU W B m d r) :
    Calls Try.prog 4 #[.slice A n c, .slice B m d] W fun e W' => e = .returned (.bool true) ∧ Below W.heap.size W W' := by
  have hmx : Try.prog.follows .mixedOrders = true := by kernel_rfl
  have HAW := Lib.hid (awake12_any W)
  by_cases hn : 40 < n
  · have hnI' : (40 : Int) < (n : Int) := by omega
    clear h h'
    go_enter Try.func4, Try.ntmps4
    go_wp2_with (go_at_call 6; (with_reducible refine HAW.out.mono ?_); rintro e w1 ⟨rfl, b1⟩; have B1 := Lib.hid b1; clear b1)
    go_ret
    exact ⟨rfl, B1.out⟩
  have hnI : ¬ (40 : Int) < (n : Int) := by omega
  by_cases hm : 40 < m
  · have hmI' : (40 : Int) < (m : Int) := by omega
    clear h h'
    go_enter Try.func4, Try.ntmps4
    go_wp2_with (go_at_call 6; (with_reducible refine HAW.out.mono ?_); rintro e w1 ⟨rfl, b1⟩; have B1 := Lib.hid b1; clear b1)
    go_ret
    exact ⟨rfl, B1.out⟩
  have hmI : ¬ (40 : Int) < (m : Int) := by omega
  have HNW := Lib.hid (fun w1 (b : Below W.heap.size W w1) => newS b)
  have HLN := Lib.hid h.len
  have HRN := Lib.hid h'.len
  have HLB := Lib.hid h.big
  have HRB := Lib.hid h'.big
  have HEA := Lib.hid h.cells12
  have HEB := Lib.hid h'.cells12
  clear h h'
  go_enter Try.func4, Try.ntmps4
  go_wp2_with (first
    | (go_at_call 6; (with_reducible refine HAW.out.mono ?_); rintro e w1 ⟨rfl, b1⟩; have B1 := Lib.hid b1; clear b1)
    | (go_at_call 7; (with_reducible refine (HNW.out _ B1.out).mono ?_); rintro e w2 ⟨P, mb, rfl, h2, _, _, _⟩; have X2 := Lib.hid h2; clear h2)
    | (go_at_call 7; (with_reducible refine (HNW.out _ X2.out.bel).mono ?_); rintro e w3 ⟨Q, qb, rfl, h3, h4, h5, h6⟩; have T3 : Hid (Tw W w3 P mb [] Q qb []) := Lib.hid ⟨X2.out.below h5, h3, (by obtain ⟨m, hp⟩ := X2.out.pn; have := hp.hd.lt; omega), (fun b e e2 => by have := h6.cell 0; rw [e2] at this; cases this)⟩; clear h3 h4 h5 h6))
  go_loopw [8] (fun i wr => ∃ (k : Nat) (L M : List Nat), k ≤ n ∧ i = .int .i64 (k : Int) ∧ Tw W wr P mb L Q qb M ∧ (∀ x, L.count x = (l.take k).count x) ∧ (∀ x, M.count x = (l.drop (n - k)).count x) ∧ L.length = k ∧ M.length = k) (fun i _ => n - (intOf i).toNat)
  case atStart => exact ⟨0, [], [], Nat.zero_le _, rfl, T3.out, fun x => rfl, fun x => by rw [Nat.sub_zero, HLN.out, List.drop_length], rfl, rfl⟩
  case round =>
    obtain ⟨k, L, M, hk, rfl, hT, hC, hD, hL, hM⟩ := hrel
    have T4 := Lib.hid hT
    have HC := Lib.hid hC
    have HD := Lib.hid hD
    clear hT hC hD
    by_cases hlt : k < n
    · obtain ⟨g, off, rfl, hel⟩ := HEA.out (by omega)
      have hkl : k < l.length := by have := HLN.out; omega
      obtain ⟨j, hj⟩ : ∃ j, n - 1 - k = j := ⟨_, rfl⟩
      have hjl : j < l.length := by have := HLN.out; omega
      have hck := hel k hkl wr T4.out.p.bel
      have HEJ := Lib.hid (hel j hjl)
      have hv := HLB.out _ (List.getElem_mem hkl)
      have hu := HLB.out _ (List.getElem_mem hjl)
      have HCS := Lib.hid (fun x => count_take (x := x) hkl)
      have HDS : Hid (∀ x, (l.drop (n - (k + 1))).count x = (l.drop (n - k)).count x + if x = l[j] then 1 else 0) := Lib.hid (fun x => by
        have e := count_drop (x := x) hjl
        have h1 : n - (k + 1) = j := by omega
        have h2 : n - k = j + 1 := by omega
        rw [h1, h2]
        exact e)
      obtain ⟨v, hvv⟩ : ∃ v, l[k] = v := ⟨_, rfl⟩
      obtain ⟨u, huu⟩ : ∃ u, l[j] = u := ⟨_, rfl⟩
      rw [hvv] at hck hv HCS
      rw [huu] at HEJ hu HDS
      have HPP := Lib.hid (T4.out.pinP v hv (by omega))
      have HPQ := Lib.hid (fun w1 K (h : Tw W w1 P mb K Q qb M) => h.pinQ u hu (by omega))
      have hkI : (k : Int) < (n : Int) := by omega
      have hk0 : (0 : Int) ≤ (k : Int) := by omega
      have hw1 : IntKind.i64.wrap ((n : Int) - 1) = (n : Int) - 1 := by rw [IntKind.wrap_i64]; omega
      have hw2 : IntKind.i64.wrap ((n : Int) - 1 - (k : Int)) = (j : Int) := by rw [IntKind.wrap_i64]; omega
      have hj0 : (0 : Int) ≤ (j : Int) := by omega
      have hj1 : (j : Int) < (n : Int) := by omega
      clear hvv huu hkl hjl hj hel hv hu
      go_wp2_with (first
        | (go_at_call 8; (with_reducible refine HPP.out.mono ?_); rintro e w4 ⟨rfl, h4⟩; have d4 := HEJ.out w4 h4.p.bel; have T5 := Lib.hid h4; clear h4)
        | (go_at_call 8; (with_reducible refine (HPQ.out _ _ T5.out).mono ?_); rintro e w5 ⟨rfl, h5⟩; have T6 := Lib.hid h5; clear h5))
      go_roundw
      case rel => exact ⟨k + 1, _, _, by omega, by go_num, T6.out, fun x => by rw [pinN_count, HC.out, HCS.out], fun x => by rw [pinN_count, HD.out, HDS.out], by rw [pinN_len, hL], by rw [pinN_len, hM]⟩
      case measure => simp [intOf]; omega
    · obtain rfl : k = n := by omega
      have hltI : ¬ (k : Int) < (k : Int) := by omega
      have HC2 : Hid (∀ x, L.count x = l.count x) := Lib.hid (fun x => by rw [HC.out, HLN.out, List.take_length])
      have HD2 : Hid (∀ x, M.count x = l.count x) := Lib.hid (fun x => by rw [HD.out, Nat.sub_self, List.drop_zero])
      clear HC HD
      obtain ⟨wA, hwA⟩ : ∃ wA : World, wA = wr := ⟨_, rfl⟩
      subst hwA
      go_wp2
      go_loopw [9] (fun i wr => ∃ (k2 : Nat) (L2 : List Nat), k2 ≤ m ∧ i = .int .i64 (k2 : Int) ∧ Tw W wr P mb L2 Q qb M ∧ (∀ x, L2.count x = l.count x + (r.take k2).count x) ∧ L2.length = k + k2) (fun i _ => m - (intOf i).toNat)
      case atStart => exact ⟨0, L, Nat.zero_le _, rfl, T4.out, fun x => HC2.out x, hL⟩
      case round =>
        obtain ⟨k2, L2, hk2, rfl, hT, hC, hL2⟩ := hrel
        have T7 := Lib.hid hT
        have HC := Lib.hid hC
        clear hT hC
        by_cases hlt : k2 < m
        · obtain ⟨g, off, rfl, hel⟩ := HEB.out (by omega)
          have hkl : k2 < r.length := by have := HRN.out; omega
          have hck := hel k2 hkl wr T7.out.p.bel
          have hv := HRB.out _ (List.getElem_mem hkl)
          have HCS := Lib.hid (fun x => count_take (x := x) hkl)
          obtain ⟨v, hvv⟩ : ∃ v, r[k2] = v := ⟨_, rfl⟩
          rw [hvv] at hck hv HCS
          have HPP := Lib.hid (T7.out.pinP v hv (by omega))
          have hkI : (k2 : Int) < (m : Int) := by omega
          have hk0 : (0 : Int) ≤ (k2 : Int) := by omega
          clear hvv hkl hel hv
          go_wp2_with (go_at_call 8; (with_reducible refine HPP.out.mono ?_); rintro e w4 ⟨rfl, h4⟩; have T8 := Lib.hid h4; clear h4)
          go_roundw
          case rel => exact ⟨k2 + 1, _, by omega, by go_num, T8.out, fun x => by rw [pinN_count, HC.out, HCS.out, Nat.add_assoc], by rw [pinN_len, hL2]; rfl⟩
          case measure => simp [intOf]; omega
        · obtain rfl : k2 = m := by omega
          have hltI2 : ¬ (k2 : Int) < (k2 : Int) := by omega
          have HC3 : Hid (∀ x, L2.count x = l.count x + r.count x) := Lib.hid (fun x => by rw [HC.out, HRN.out, List.take_length])
          clear HC
          obtain ⟨wB, hwB⟩ : ∃ wB : World, wB = wr := ⟨_, rfl⟩
          subst hwB
          go_wp2
          go_loopw [10] (fun i wr => ∃ (k3 : Nat) (L3 : List Nat), k3 ≤ k2 ∧ i = .int .i64 (k3 : Int) ∧ Tw W wr P mb L3 Q qb M ∧ (∀ x, L3.count x = l.count x + (r.drop k3).count x) ∧ L3.length ≤ 80) (fun i _ => k2 - (intOf i).toNat)
          case atStart => exact ⟨0, L2, Nat.zero_le _, rfl, T7.out, fun x => HC3.out x, by omega⟩
          case round =>
            obtain ⟨k3, L3, hk3, rfl, hT, hC, hL3⟩ := hrel
            have T9 := Lib.hid hT
            have HC := Lib.hid hC
            clear hT hC
            by_cases hlt : k3 < k2
            · obtain ⟨g, off, rfl, hel⟩ := HEB.out (by omega)
              have hkl : k3 < r.length := by have := HRN.out; omega
              have hck := hel k3 hkl wr T9.out.p.bel
              have hv := HRB.out _ (List.getElem_mem hkl)
              have HCS := Lib.hid (fun x => count_drop (x := x) hkl)
              obtain ⟨v, hvv⟩ : ∃ v, r[k3] = v := ⟨_, rfl⟩
              rw [hvv] at hck hv HCS
              have hmem : v ∈ L3 := by
                have h1 := HC.out v
                have h2 := HCS.out v
                rw [if_pos rfl] at h2
                exact List.count_pos_iff.1 (by omega)
              have HPP := Lib.hid (T9.out.unpinP v hv (by omega) hmem)
              have HM := Lib.hid hmem
              have hkI : (k3 : Int) < (k2 : Int) := by omega
              have hk0 : (0 : Int) ≤ (k3 : Int) := by omega
              clear hvv hkl hel hv hmem
              go_wp2_with (go_at_call 11; (with_reducible refine HPP.out.mono ?_); rintro e w4 ⟨rfl, h4⟩; have T8 := Lib.hid h4; clear h4)
              go_roundw
              case rel => exact ⟨k3 + 1, _, by omega, by go_num, T8.out, fun x => by have h1 := HC.out x; have h2 := HCS.out x; have h3 := count_erase12 (x := x) HM.out; omega, by have := List.length_erase_le (a := v) (l := L3); omega⟩
              case measure => simp [intOf]; omega
            · obtain rfl : k3 = k2 := by omega
              have hltI3 : ¬ (k3 : Int) < (k3 : Int) := by omega
              have hC3 : ∀ x, L3.count x = l.count x := fun x => by rw [HC.out, HRN.out, List.drop_length]; simp
              have hLM : L3 = M := srt_ext T9.out.p.pn.srt T9.out.q.pn.srt (fun x => by rw [hC3, HD2.out])
              subst hLM
              have hln : L3.length = k := by rw [len_of_count hC3, ← HLN.out]
              have hsr := T9.out.p.pn.srt
              obtain ⟨wC, hwC⟩ : ∃ wC : World, wC = wr := ⟨_, rfl⟩
              subst hwC
              clear HC HC3 hC3
              obtain ⟨⟨ox, ob⟩, hox⟩ : ∃ o, oldN L3 = o := ⟨_, rfl⟩
              have hob : ob = decide ((0 : Int) < (k : Int)) := by
                have h1 := old_some L3
                rw [hox] at h1
                simp only at h1
                rw [h1, hln]
                exact decide_eq_decide.2 (by omega)
              subst hob
              have HOP : Hid (∀ w1, Tw W w1 P mb L3 Q qb L3 → Calls Try.prog 12 #[.pointer (some ⟨P, 0, none⟩)] w1 fun e w' => e = .returned (.tuple #[.int .u64 (ox : Int), .bool (decide ((0 : Int) < (k : Int)))]) ∧ Below w1.heap.size w1 w') := Lib.hid (fun w1 h => by have := piOldest_any h.p.pn (by omega); rw [hox] at this; exact this)
              have HOQ : Hid (∀ w1, Tw W w1 P mb L3 Q qb L3 → Calls Try.prog 12 #[.pointer (some ⟨Q, 0, none⟩)] w1 fun e w' => e = .returned (.tuple #[.int .u64 (ox : Int), .bool (decide ((0 : Int) < (k : Int)))]) ∧ Below w1.heap.size w1 w') := Lib.hid (fun w1 h => by have := piOldest_any h.q.pn (by omega); rw [hox] at this; exact this)
              have HAP : Hid (∀ w1, Tw W w1 P mb L3 Q qb L3 → Calls Try.prog 17 #[.pointer (some ⟨P, 0, none⟩)] w1 (RowEnd (allN L3) w1)) := Lib.hid (fun w1 h => piAll_any h.p.pn (by omega))
              have HAQ : Hid (∀ w1, Tw W w1 P mb L3 Q qb L3 → Calls Try.prog 17 #[.pointer (some ⟨Q, 0, none⟩)] w1 (RowEnd (allN L3) w1)) := Lib.hid (fun w1 h => piAll_any h.q.pn (by omega))
              unfold RowEnd at HAP HAQ
              have HSM : Hid (∀ (w1 : World) B B' (m m' d d' : Nat), RowU w1 B m d (allN L3) → RowU w1 B' m' d' (allN L3) → Calls Try.prog 16 #[.slice B m d, .slice B' m' d'] w1 fun e w' => e = .returned (.bool true) ∧ Below w1.heap.size w1 w') := Lib.hid (fun w1 B B' m m' d d' h1 h2 => by
                have := r3Same_any (allN L3) (allN L3) B B' m d m' d' w1 h1.arg.len h2.arg.len h1.arg.reads h2.arg.reads (by have := h1.arg.len; have := allTo_len L3 L3.length; unfold allN at *; omega)
                simpa using this)
              have HOX := Lib.hid hox
              have HSR := Lib.hid hsr
              clear hox hsr
              go_wp2_with (first
                | (go_at_call 12; (with_reducible refine (HOP.out _ T9.out).mono ?_); rintro e w4 ⟨rfl, b4⟩; have U4 := Lib.hid (T9.out.below b4); clear b4)
                | (go_at_call 12; (with_reducible refine (HOQ.out _ U4.out).mono ?_); rintro e w5 ⟨rfl, b5⟩; have U5 := Lib.hid (U4.out.below b5); clear b5)
                | (go_at_call 17; (with_reducible refine (HAP.out _ U5.out).mono ?_); rintro e w6 ⟨A6, n6, c6, rfl, r6, b6⟩; have U6 := Lib.hid (U5.out.below b6); have R6 := Lib.hid r6; clear b6 r6)
                | (go_at_call 17; (with_reducible refine (HAQ.out _ U6.out).mono ?_); rintro e w7 ⟨A7, n7, c7, rfl, r7, b7⟩; have U7 := Lib.hid (U6.out.below b7); have R7 := Lib.hid r7; have R6b := Lib.hid (R6.out.below b7); clear b7 r7)
                | (go_at_call 16; (with_reducible refine (HSM.out _ _ _ _ _ _ _ R6b.out R7.out).mono ?_); rintro e w8 ⟨rfl, b8⟩; have U8 := Lib.hid (U7.out.below b8); have R8 := Lib.hid (R6b.out.below b8); clear b8))
              have HN6 := Lib.hid R8.out.arg.len
              have hn6 : n6 ≤ 80 := by have := HN6.out; have := allTo_len L3 L3.length; unfold allN at *; omega
              have HE6 := Lib.hid R8.out.arg.cells12
              go_loopw [16, 17] (fun s i wr => ∃ (j q : Nat), j ≤ n6 ∧ i = .int .i64 (j : Int) ∧ s = .int .i64 (q : Int) ∧ q ≤ 80 ∧ sumTo L3 j = q ∧ Below w8.heap.size w8 wr) (fun _ i _ => n6 - (intOf i).toNat)
              case atStart => exact ⟨0, 0, Nat.zero_le _, rfl, rfl, by omega, rfl, Below.refl _ _⟩
              case round =>
                obtain ⟨j, q, hj, rfl, rfl, hq, hs, hb⟩ := hrel
                have HS := Lib.hid hs
                have HB := Lib.hid hb
                have U := Lib.hid (U8.out.below hb)
                clear hs hb
                by_cases hlt : j < n6
                · obtain ⟨g, off, rfl, hel⟩ := HE6.out (by omega)
                  have hjl : j < (allN L3).length := by have := HN6.out; omega
                  have hck := hel j hjl wr HB.out
                  have HCK := Lib.hid (hel j hjl)
                  have hmem : (allN L3)[j] ∈ L3 := allN_mem.1 (List.getElem_mem hjl)
                  have hbig := U.out.p.pn.big _ hmem
                  have hge := (old_least HSR.out hmem).1
                  rw [HOX.out] at hge
                  simp only at hge
                  have hcp := List.count_pos_iff.2 hmem
                  have hss := sumTo_succ hjl
                  have hsl := sumTo_le HSR.out (j + 1)
                  have HPR : Hid (∀ i, i + 1 = j → ∃ y, y < (allN L3)[j] ∧ ∀ w5, Below w8.heap.size w8 w5 → w5.cell? ⟨g, off + i, none⟩ = some (.int .u64 (y : Int))) := Lib.hid (fun i hi => by
                    subst hi
                    exact ⟨(allN L3)[i], (List.pairwise_iff_getElem.1 (allN_inc HSR.out)) i (i + 1) (by omega) hjl (by omega), fun w5 b5 => hel i (by omega) w5 b5⟩)
                  obtain ⟨x, hx⟩ : ∃ x, (allN L3)[j] = x := ⟨_, rfl⟩
                  rw [hx] at hck HCK hmem hbig hge hcp hss HPR
                  obtain ⟨cx, hcx⟩ : ∃ cx, L3.count x = cx := ⟨_, rfl⟩
                  rw [hcx] at hcp hss
                  rw [HS.out] at hss
                  have hcx80 : cx ≤ 80 := by omega
                  have hq2 : q + cx ≤ 80 := by omega
                  have HHE : Hid (∀ w1, Tw W w1 P mb L3 Q qb L3 → Calls Try.prog 14 #[.pointer (some ⟨P, 0, none⟩), .int .u64 (x : Int)] w1 fun e w' => e = .returned (.int .i64 (cx : Int)) ∧ Below w1.heap.size w1 w') := Lib.hid (fun w1 h => by have := piHeld_any x h.p.pn hbig (by omega); rw [hcx] at this; exact this)
                  have HSS := Lib.hid hss
                  have hltI4 : (j : Int) < (n6 : Int) := by omega
                  have hj0 : (0 : Int) ≤ (j : Int) := by omega
                  have hge2 : ¬ (x : Int) < (ox : Int) := by omega
                  have hc1 : ¬ (cx : Int) < 1 := by omega
                  clear hel hjl hmem hbig hss hsl hx hcx
                  by_cases hz : j = 0
                  · have hz2 : ¬ (0 : Int) < (j : Int) := by omega
                    have HZ := Lib.hid hz
                    clear hz
                    have hS0 : (fun w' : World => w'.cell? ⟨g, off + j, none⟩ = some (.int .u64 (x : Int))) wr.drew := hck
                    have UD := U.out.below (Below.refl _ wr).drew
                    go_wp2
                    rename_i K hK
                    refine wp_held (fun w' : World => w'.cell? ⟨g, off + j, none⟩ = some (.int .u64 (x : Int))) K hmx ?_ (fun _ _ h => h)
                    refine wpAnyH_take (i := 0) (v := .int .i64 (j : Int)) (lit rfl) (by kernel_rfl) (by kernel_rfl) (by kernel_rfl) (fun _ _ _ h => h) (Or.inl ⟨by rfl, ?_⟩) hS0 ?_
                    · rintro w6 k1
                      go_simp
                    simp only [Act.put, List.setIfInBounds_toArray, List.set_cons_zero, List.set_cons_succ]
                    refine wpAnyH_take (i := 1) (v := .bool false) (lit rfl) (by kernel_rfl) (by kernel_rfl) (by kernel_rfl) (fun _ _ _ h => h) (Or.inl ⟨by rfl, ?_⟩) hS0 ?_
                    · rintro w6 k1
                      go_simp
                      exact HZ.out
                    simp only [Act.put, List.setIfInBounds_toArray, List.set_cons_zero, List.set_cons_succ]
                    refine wpAnyH_take (i := 2) (v := .bool false) (lit rfl) (by kernel_rfl) (by kernel_rfl) (by kernel_rfl) (fun _ _ _ h => h) (Or.inl ⟨by rfl, ?_⟩) hS0 ?_
                    · rintro w6 k1
                      go_simp
                    simp only [Act.put, List.setIfInBounds_toArray, List.set_cons_zero, List.set_cons_succ]
                    refine wpAnyH_take (i := 3) (v := undef) (lit rfl) (by kernel_rfl) (by kernel_rfl) (by kernel_rfl) (fun _ _ _ h => h) (Or.inr ⟨by rfl, rfl⟩) hS0 ?_
                    simp only [Act.put, List.setIfInBounds_toArray, List.set_cons_zero, List.set_cons_succ]
                    refine wpAnyH_take (i := 4) (v := undef) (lit rfl) (by kernel_rfl) (by kernel_rfl) (by kernel_rfl) (fun _ _ _ h => h) (Or.inr ⟨by rfl, rfl⟩) hS0 ?_
                    simp only [Act.put, List.setIfInBounds_toArray, List.set_cons_zero, List.set_cons_succ]
                    refine wpAnyH_take (i := 5) (v := undef) (lit rfl) (by kernel_rfl) (by kernel_rfl) (by kernel_rfl) (fun _ _ _ h => h) (Or.inr ⟨by rfl, rfl⟩) hS0 ?_
                    simp only [Act.put, List.setIfInBounds_toArray, List.set_cons_zero, List.set_cons_succ]
                    refine wpAnyH_take (i := 6) (v := undef) (lit rfl) (by kernel_rfl) (by kernel_rfl) (by kernel_rfl) (fun _ _ _ h => h) (Or.inr ⟨by rfl, rfl⟩) hS0 ?_
                    simp only [Act.put, List.setIfInBounds_toArray, List.set_cons_zero, List.set_cons_succ]
                    refine wpAnyH_take (i := 7) (v := undef) (lit rfl) (by kernel_rfl) (by kernel_rfl) (by kernel_rfl) (fun _ _ _ h => h) (Or.inr ⟨by rfl, rfl⟩) hS0 ?_
                    simp only [Act.put, List.setIfInBounds_toArray, List.set_cons_zero, List.set_cons_succ]
                    refine wpAnyH_take (i := 8) (v := undef) (lit rfl) (by kernel_rfl) (by kernel_rfl) (by kernel_rfl) (fun _ _ _ h => h) (Or.inr ⟨by rfl, rfl⟩) hS0 ?_
                    simp only [Act.put, List.setIfInBounds_toArray, List.set_cons_zero, List.set_cons_succ]
                    refine wpAnyH_take (i := 9) (v := undef) (lit rfl) (by kernel_rfl) (by kernel_rfl) (by kernel_rfl) (fun _ _ _ h => h) (Or.inr ⟨by rfl, rfl⟩) hS0 ?_
                    simp only [Act.put, List.setIfInBounds_toArray, List.set_cons_zero, List.set_cons_succ]
                    refine wpAnyH_take (i := 10) (v := undef) (lit rfl) (by kernel_rfl) (by kernel_rfl) (by kernel_rfl) (fun _ _ _ h => h) (Or.inr ⟨by rfl, rfl⟩) hS0 ?_
                    simp only [Act.put, List.setIfInBounds_toArray, List.set_cons_zero, List.set_cons_succ]
                    refine wpAnyH_take (i := 11) (v := undef) (lit rfl) (by kernel_rfl) (by kernel_rfl) (by kernel_rfl) (fun _ _ _ h => h) (Or.inr ⟨by rfl, rfl⟩) hS0 ?_
                    simp only [Act.put, List.setIfInBounds_toArray, List.set_cons_zero, List.set_cons_succ]
                    refine wpAnyH_take (i := 12) (v := undef) (lit rfl) (by kernel_rfl) (by kernel_rfl) (by kernel_rfl) (fun _ _ _ h => h) (Or.inr ⟨by rfl, rfl⟩) hS0 ?_
                    simp only [Act.put, List.setIfInBounds_toArray, List.set_cons_zero, List.set_cons_succ]
                    refine wpAnyH_take (i := 13) (v := .bool false) (lit rfl) (by kernel_rfl) (by kernel_rfl) (by kernel_rfl) (fun _ _ _ h => h) (Or.inl ⟨by rfl, ?_⟩) hS0 ?_
                    · rintro w6 k1
                      go_simp
                    simp only [Act.put, List.setIfInBounds_toArray, List.set_cons_zero, List.set_cons_succ]
                    refine wpAnyH_take (i := 14) (v := .bool false) (lit rfl) (by kernel_rfl) (by kernel_rfl) (by kernel_rfl) (fun _ _ _ h => h) (Or.inl ⟨by rfl, ?_⟩) hS0 ?_
                    · rintro w6 k1
                      go_simp
                    simp only [Act.put, List.setIfInBounds_toArray, List.set_cons_zero, List.set_cons_succ]
                    refine wpAnyH_take (i := 15) (v := .slice (some ⟨g, off, none⟩) n6 c6) (lit rfl) (by kernel_rfl) (by kernel_rfl) (by kernel_rfl) (fun _ _ _ h => h) (Or.inl ⟨by rfl, ?_⟩) hS0 ?_
                    · rintro w6 k1
                      go_simp
                    simp only [Act.put, List.setIfInBounds_toArray, List.set_cons_zero, List.set_cons_succ]
                    refine wpAnyH_take (i := 16) (v := .int .i64 (j : Int)) (lit rfl) (by kernel_rfl) (by kernel_rfl) (by kernel_rfl) (fun _ _ _ h => h) (Or.inl ⟨by rfl, ?_⟩) hS0 ?_
                    · rintro w6 k1
                      go_simp
                    simp only [Act.put, List.setIfInBounds_toArray, List.set_cons_zero, List.set_cons_succ]
                    refine wpAnyH_take (i := 17) (v := .pointer (some ⟨g, off + j, none⟩)) (lit rfl) (by kernel_rfl) (by kernel_rfl) (by kernel_rfl) (fun _ _ _ h => h) (Or.inl ⟨by rfl, ?_⟩) hS0 ?_
                    · rintro w6 k1
                      go_simp
                    simp only [Act.put, List.setIfInBounds_toArray, List.set_cons_zero, List.set_cons_succ]
                    refine wpAnyH_take (i := 18) (v := .int .u64 (x : Int)) (lit rfl) (by kernel_rfl) (by kernel_rfl) (by kernel_rfl) (fun _ _ _ h => h) (Or.inl ⟨by rfl, ?_⟩) hS0 ?_
                    · rintro w6 k1
                      go_simp
                    simp only [Act.put, List.setIfInBounds_toArray, List.set_cons_zero, List.set_cons_succ]
                    refine wpAnyH_take (i := 19) (v := .int .u64 (ox : Int)) (lit rfl) (by kernel_rfl) (by kernel_rfl) (by kernel_rfl) (fun _ _ _ h => h) (Or.inl ⟨by rfl, ?_⟩) hS0 ?_
                    · rintro w6 k1
                      go_simp
                    simp only [Act.put, List.setIfInBounds_toArray, List.set_cons_zero, List.set_cons_succ]
                    refine wpAnyH_take (i := 20) (v := .bool false) (lit rfl) (by kernel_rfl) (by kernel_rfl) (by kernel_rfl) (fun _ _ _ h => h) (Or.inl ⟨by rfl, ?_⟩) hS0 ?_
                    · rintro w6 k1
                      go_simp
                    simp only [Act.put, List.setIfInBounds_toArray, List.set_cons_zero, List.set_cons_succ]
                    refine wpAnyH_take (i := 21) (v := .bool false) (lit rfl) (by kernel_rfl) (by kernel_rfl) (by kernel_rfl) (fun _ _ _ h => h) (Or.inl ⟨by rfl, ?_⟩) hS0 ?_
                    · rintro w6 k1
                      go_simp
                    simp only [Act.put, List.setIfInBounds_toArray, List.set_cons_zero, List.set_cons_succ]
                    refine wpAnyH_take (i := 22) (v := .bool false) (lit rfl) (by kernel_rfl) (by kernel_rfl) (by kernel_rfl) (fun _ _ _ h => h) (Or.inl ⟨by rfl, ?_⟩) hS0 ?_
                    · rintro w6 k1
                      go_simp
                    simp only [Act.put, List.setIfInBounds_toArray, List.set_cons_zero, List.set_cons_succ]
                    refine wpAnyH_take (i := 23) (v := .pointer (some ⟨P, 0, none⟩)) (lit rfl) (by kernel_rfl) (by kernel_rfl) (by kernel_rfl) (fun _ _ _ h => h) (Or.inl ⟨by rfl, ?_⟩) hS0 ?_
                    · rintro w6 k1
                      go_simp
                    simp only [Act.put, List.setIfInBounds_toArray, List.set_cons_zero, List.set_cons_succ]
                    refine wpAnyH_take (i := 24) (v := .slice (some ⟨g, off, none⟩) n6 c6) (lit rfl) (by kernel_rfl) (by kernel_rfl) (by kernel_rfl) (fun _ _ _ h => h) (Or.inl ⟨by rfl, ?_⟩) hS0 ?_
                    · rintro w6 k1
                      go_simp
                    simp only [Act.put, List.setIfInBounds_toArray, List.set_cons_zero, List.set_cons_succ]
                    refine wpAnyH_take (i := 25) (v := .int .i64 (j : Int)) (lit rfl) (by kernel_rfl) (by kernel_rfl) (by kernel_rfl) (fun _ _ _ h => h) (Or.inl ⟨by rfl, ?_⟩) hS0 ?_
                    · rintro w6 k1
                      go_simp
                    simp only [Act.put, List.setIfInBounds_toArray, List.set_cons_zero, List.set_cons_succ]
                    refine wpAnyH_take (i := 26) (v := .pointer (some ⟨g, off + j, none⟩)) (lit rfl) (by kernel_rfl) (by kernel_rfl) (by kernel_rfl) (fun _ _ _ h => h) (Or.inl ⟨by rfl, ?_⟩) hS0 ?_
                    · rintro w6 k1
                      go_simp
                    simp only [Act.put, List.setIfInBounds_toArray, List.set_cons_zero, List.set_cons_succ]
                    refine wpAnyH_take (i := 27) (v := .int .u64 (x : Int)) (lit rfl) (by kernel_rfl) (by kernel_rfl) (by kernel_rfl) (fun _ _ _ h => h) (Or.inl ⟨by rfl, ?_⟩) hS0 ?_
                    · rintro w6 k1
                      go_simp
                    simp only [Act.put, List.setIfInBounds_toArray, List.set_cons_zero, List.set_cons_succ]
                    refine wpAnyH_ready (rs := [28]) (by kernel_rfl) (by simp) ?_
                    refine AllReadyH.cons (lit rfl) (fun K5 hK5 => ?_) AllReadyH.nil
                    go_simp
                    go_at_call 14
                    (with_reducible refine (HHE.out _ UD).mono ?_)
                    rintro e7 w7 ⟨rfl, b7⟩
                    have B7 : Below w8.heap.size w8 w7 := below_step HB.out.drew b7
                    have U7b := UD.below b7
                    have hS7 : (fun w' : World => w'.cell? ⟨g, off + j, none⟩ = some (.int .u64 (x : Int))) w7 := HCK.out _ B7
                    clear b7
                    refine hK5.out _ _ hS7 (fun _ => ?_)
                    clear hK5 K5
                    refine wpAnyH_take (i := 29) (v := .bool false) (lit rfl) (by kernel_rfl) (by kernel_rfl) (by kernel_rfl) (fun _ _ _ h => h) (Or.inl ⟨by rfl, ?_⟩) hS7 ?_
                    · rintro w6 k1
                      go_simp
                    simp only [Act.put, List.setIfInBounds_toArray, List.set_cons_zero, List.set_cons_succ]
                    refine wpAnyH_take (i := 30) (v := .bool false) (lit rfl) (by kernel_rfl) (by kernel_rfl) (by kernel_rfl) (fun _ _ _ h => h) (Or.inl ⟨by rfl, ?_⟩) hS7 ?_
                    · rintro w6 k1
                      go_simp
                    simp only [Act.put, List.setIfInBounds_toArray, List.set_cons_zero, List.set_cons_succ]
                    refine wpAnyH_done (by kernel_rfl) ?_ _
                    refine hK _ _ ?_
                    have hck7 := HCK.out _ B7
                    go_wp2_with (go_at_call 14; (with_reducible refine (HHE.out _ U7b).mono ?_); rintro e w9 ⟨rfl, b9⟩; have B9 := Lib.hid (below_step B7 b9); clear b9)
                    go_roundw
                    case rel => exact ⟨j + 1, q + cx, by omega, by go_num, by go_num, hq2, HSS.out, B9.out⟩
                    case measure => simp [intOf]; omega
                  · obtain ⟨i, rfl⟩ : ∃ i, j = i + 1 := ⟨j - 1, by omega⟩
                    obtain ⟨y, hy, hyc⟩ := HPR.out i rfl
                    have hz2 : (0 : Int) < ((i + 1 : Nat) : Int) := by omega
                    have hz3 : (0 : Int) < (i : Int) + 1 := by omega
                    have hyx : ¬ (x : Int) ≤ (y : Int) := by omega
                    have hwj : IntKind.i64.wrap (i : Int) = (i : Int) := by rw [IntKind.wrap_i64]; omega
                    have j0 : (0 : Int) ≤ (i : Int) := by omega
                    have j1 : (i : Int) < (n6 : Int) := by omega
                    have j2 : ¬ ((i : Int) + 1 < 0) := by omega
                    have j3 : (i : Int) + 1 < (n6 : Int) := by omega
                    have j4 : (0 : Int) ≤ (i : Int) + 1 := by omega
                    have hS0 : (fun w' : World => w'.cell? ⟨g, off + (i + 1), none⟩ = some (.int .u64 (x : Int)) ∧ w'.cell? ⟨g, off + i, none⟩ = some (.int .u64 (y : Int))) wr.drew := ⟨hck, hyc wr HB.out⟩
                    have UD := U.out.below (Below.refl _ wr).drew
                    go_wp2
                    rename_i K hK
                    refine wp_held (fun w' : World => w'.cell? ⟨g, off + (i + 1), none⟩ = some (.int .u64 (x : Int)) ∧ w'.cell? ⟨g, off + i, none⟩ = some (.int .u64 (y : Int))) K hmx ?_ (fun _ _ h => h)
                    refine wpAnyH_take (i := 0) (v := .int .i64 ((i + 1 : Nat) : Int)) (lit rfl) (by kernel_rfl) (by kernel_rfl) (by kernel_rfl) (fun _ _ _ h => h) (Or.inl ⟨by rfl, ?_⟩) hS0 ?_
                    · rintro w6 ⟨k1, k2⟩
                      go_simp
                    simp only [Act.put, List.setIfInBounds_toArray, List.set_cons_zero, List.set_cons_succ]
                    refine wpAnyH_take (i := 1) (v := .bool true) (lit rfl) (by kernel_rfl) (by kernel_rfl) (by kernel_rfl) (fun _ _ _ h => h) (Or.inl ⟨by rfl, ?_⟩) hS0 ?_
                    · rintro w6 ⟨k1, k2⟩
                      go_simp
                    simp only [Act.put, List.setIfInBounds_toArray, List.set_cons_zero, List.set_cons_succ]
                    refine wpAnyH_take (i := 2) (v := .bool true) (lit rfl) (by kernel_rfl) (by kernel_rfl) (by kernel_rfl) (fun _ _ _ h => h) (Or.inl ⟨by rfl, ?_⟩) hS0 ?_
                    · rintro w6 ⟨k1, k2⟩
                      go_simp
                    simp only [Act.put, List.setIfInBounds_toArray, List.set_cons_zero, List.set_cons_succ]
                    refine wpAnyH_take (i := 3) (v := .slice (some ⟨g, off, none⟩) n6 c6) (lit rfl) (by kernel_rfl) (by kernel_rfl) (by kernel_rfl) (fun _ _ _ h => h) (Or.inl ⟨by rfl, ?_⟩) hS0 ?_
                    · rintro w6 ⟨k1, k2⟩
                      go_simp
                    simp only [Act.put, List.setIfInBounds_toArray, List.set_cons_zero, List.set_cons_succ]
                    refine wpAnyH_take (i := 4) (v := .int .i64 ((i + 1 : Nat) : Int)) (lit rfl) (by kernel_rfl) (by kernel_rfl) (by kernel_rfl) (fun _ _ _ h => h) (Or.inl ⟨by rfl, ?_⟩) hS0 ?_
                    · rintro w6 ⟨k1, k2⟩
                      go_simp
                    simp only [Act.put, List.setIfInBounds_toArray, List.set_cons_zero, List.set_cons_succ]
                    refine wpAnyH_take (i := 5) (v := .pointer (some ⟨g, off + (i + 1), none⟩)) (lit rfl) (by kernel_rfl) (by kernel_rfl) (by kernel_rfl) (fun _ _ _ h => h) (Or.inl ⟨by rfl, ?_⟩) hS0 ?_
                    · rintro w6 ⟨k1, k2⟩
                      go_simp
                    simp only [Act.put, List.setIfInBounds_toArray, List.set_cons_zero, List.set_cons_succ]
                    refine wpAnyH_take (i := 6) (v := .int .u64 (x : Int)) (lit rfl) (by kernel_rfl) (by kernel_rfl) (by kernel_rfl) (fun _ _ _ h => h) (Or.inl ⟨by rfl, ?_⟩) hS0 ?_
                    · rintro w6 ⟨k1, k2⟩
                      go_simp
                    simp only [Act.put, List.setIfInBounds_toArray, List.set_cons_zero, List.set_cons_succ]
                    refine wpAnyH_take (i := 7) (v := .slice (some ⟨g, off, none⟩) n6 c6) (lit rfl) (by kernel_rfl) (by kernel_rfl) (by kernel_rfl) (fun _ _ _ h => h) (Or.inl ⟨by rfl, ?_⟩) hS0 ?_
                    · rintro w6 ⟨k1, k2⟩
                      go_simp
                    simp only [Act.put, List.setIfInBounds_toArray, List.set_cons_zero, List.set_cons_succ]
                    refine wpAnyH_take (i := 8) (v := .int .i64 ((i + 1 : Nat) : Int)) (lit rfl) (by kernel_rfl) (by kernel_rfl) (by kernel_rfl) (fun _ _ _ h => h) (Or.inl ⟨by rfl, ?_⟩) hS0 ?_
                    · rintro w6 ⟨k1, k2⟩
                      go_simp
                    simp only [Act.put, List.setIfInBounds_toArray, List.set_cons_zero, List.set_cons_succ]
                    refine wpAnyH_take (i := 9) (v := .int .i64 (i : Int)) (lit rfl) (by kernel_rfl) (by kernel_rfl) (by kernel_rfl) (fun _ _ _ h => h) (Or.inl ⟨by rfl, ?_⟩) hS0 ?_
                    · rintro w6 ⟨k1, k2⟩
                      go_simp
                    simp only [Act.put, List.setIfInBounds_toArray, List.set_cons_zero, List.set_cons_succ]
                    refine wpAnyH_take (i := 10) (v := .pointer (some ⟨g, off + i, none⟩)) (lit rfl) (by kernel_rfl) (by kernel_rfl) (by kernel_rfl) (fun _ _ _ h => h) (Or.inl ⟨by rfl, ?_⟩) hS0 ?_
                    · rintro w6 ⟨k1, k2⟩
                      go_simp
                    simp only [Act.put, List.setIfInBounds_toArray, List.set_cons_zero, List.set_cons_succ]
                    refine wpAnyH_take (i := 11) (v := .int .u64 (y : Int)) (lit rfl) (by kernel_rfl) (by kernel_rfl) (by kernel_rfl) (fun _ _ _ h => h) (Or.inl ⟨by rfl, ?_⟩) hS0 ?_
                    · rintro w6 ⟨k1, k2⟩
                      go_simp
                    simp only [Act.put, List.setIfInBounds_toArray, List.set_cons_zero, List.set_cons_succ]
                    refine wpAnyH_take (i := 12) (v := .bool false) (lit rfl) (by kernel_rfl) (by kernel_rfl) (by kernel_rfl) (fun _ _ _ h => h) (Or.inl ⟨by rfl, ?_⟩) hS0 ?_
                    · rintro w6 ⟨k1, k2⟩
                      go_simp
                    simp only [Act.put, List.setIfInBounds_toArray, List.set_cons_zero, List.set_cons_succ]
                    refine wpAnyH_take (i := 13) (v := .bool false) (lit rfl) (by kernel_rfl) (by kernel_rfl) (by kernel_rfl) (fun _ _ _ h => h) (Or.inl ⟨by rfl, ?_⟩) hS0 ?_
                    · rintro w6 ⟨k1, k2⟩
                      go_simp
                    simp only [Act.put, List.setIfInBounds_toArray, List.set_cons_zero, List.set_cons_succ]
                    refine wpAnyH_take (i := 14) (v := .bool false) (lit rfl) (by kernel_rfl) (by kernel_rfl) (by kernel_rfl) (fun _ _ _ h => h) (Or.inl ⟨by rfl, ?_⟩) hS0 ?_
                    · rintro w6 ⟨k1, k2⟩
                      go_simp
                    simp only [Act.put, List.setIfInBounds_toArray, List.set_cons_zero, List.set_cons_succ]
                    refine wpAnyH_take (i := 15) (v := .slice (some ⟨g, off, none⟩) n6 c6) (lit rfl) (by kernel_rfl) (by kernel_rfl) (by kernel_rfl) (fun _ _ _ h => h) (Or.inl ⟨by rfl, ?_⟩) hS0 ?_
                    · rintro w6 ⟨k1, k2⟩
                      go_simp
                    simp only [Act.put, List.setIfInBounds_toArray, List.set_cons_zero, List.set_cons_succ]
                    refine wpAnyH_take (i := 16) (v := .int .i64 ((i + 1 : Nat) : Int)) (lit rfl) (by kernel_rfl) (by kernel_rfl) (by kernel_rfl) (fun _ _ _ h => h) (Or.inl ⟨by rfl, ?_⟩) hS0 ?_
                    · rintro w6 ⟨k1, k2⟩
                      go_simp
                    simp only [Act.put, List.setIfInBounds_toArray, List.set_cons_zero, List.set_cons_succ]
                    refine wpAnyH_take (i := 17) (v := .pointer (some ⟨g, off + (i + 1), none⟩)) (lit rfl) (by kernel_rfl) (by kernel_rfl) (by kernel_rfl) (fun _ _ _ h => h) (Or.inl ⟨by rfl, ?_⟩) hS0 ?_
                    · rintro w6 ⟨k1, k2⟩
                      go_simp
                    simp only [Act.put, List.setIfInBounds_toArray, List.set_cons_zero, List.set_cons_succ]
                    refine wpAnyH_take (i := 18) (v := .int .u64 (x : Int)) (lit rfl) (by kernel_rfl) (by kernel_rfl) (by kernel_rfl) (fun _ _ _ h => h) (Or.inl ⟨by rfl, ?_⟩) hS0 ?_
                    · rintro w6 ⟨k1, k2⟩
                      go_simp
                    simp only [Act.put, List.setIfInBounds_toArray, List.set_cons_zero, List.set_cons_succ]
                    refine wpAnyH_take (i := 19) (v := .int .u64 (ox : Int)) (lit rfl) (by kernel_rfl) (by kernel_rfl) (by kernel_rfl) (fun _ _ _ h => h) (Or.inl ⟨by rfl, ?_⟩) hS0 ?_
                    · rintro w6 ⟨k1, k2⟩
                      go_simp
                    simp only [Act.put, List.setIfInBounds_toArray, List.set_cons_zero, List.set_cons_succ]
                    refine wpAnyH_take (i := 20) (v := .bool false) (lit rfl) (by kernel_rfl) (by kernel_rfl) (by kernel_rfl) (fun _ _ _ h => h) (Or.inl ⟨by rfl, ?_⟩) hS0 ?_
                    · rintro w6 ⟨k1, k2⟩
                      go_simp
                    simp only [Act.put, List.setIfInBounds_toArray, List.set_cons_zero, List.set_cons_succ]
                    refine wpAnyH_take (i := 21) (v := .bool false) (lit rfl) (by kernel_rfl) (by kernel_rfl) (by kernel_rfl) (fun _ _ _ h => h) (Or.inl ⟨by rfl, ?_⟩) hS0 ?_
                    · rintro w6 ⟨k1, k2⟩
                      go_simp
                    simp only [Act.put, List.setIfInBounds_toArray, List.set_cons_zero, List.set_cons_succ]
                    refine wpAnyH_take (i := 22) (v := .bool false) (lit rfl) (by kernel_rfl) (by kernel_rfl) (by kernel_rfl) (fun _ _ _ h => h) (Or.inl ⟨by rfl, ?_⟩) hS0 ?_
                    · rintro w6 ⟨k1, k2⟩
                      go_simp
                    simp only [Act.put, List.setIfInBounds_toArray, List.set_cons_zero, List.set_cons_succ]
                    refine wpAnyH_take (i := 23) (v := .pointer (some ⟨P, 0, none⟩)) (lit rfl) (by kernel_rfl) (by kernel_rfl) (by kernel_rfl) (fun _ _ _ h => h) (Or.inl ⟨by rfl, ?_⟩) hS0 ?_
                    · rintro w6 ⟨k1, k2⟩
                      go_simp
                    simp only [Act.put, List.setIfInBounds_toArray, List.set_cons_zero, List.set_cons_succ]
                    refine wpAnyH_take (i := 24) (v := .slice (some ⟨g, off, none⟩) n6 c6) (lit rfl) (by kernel_rfl) (by kernel_rfl) (by kernel_rfl) (fun _ _ _ h => h) (Or.inl ⟨by rfl, ?_⟩) hS0 ?_
                    · rintro w6 ⟨k1, k2⟩
                      go_simp
                    simp only [Act.put, List.setIfInBounds_toArray, List.set_cons_zero, List.set_cons_succ]
                    refine wpAnyH_take (i := 25) (v := .int .i64 ((i + 1 : Nat) : Int)) (lit rfl) (by kernel_rfl) (by kernel_rfl) (by kernel_rfl) (fun _ _ _ h => h) (Or.inl ⟨by rfl, ?_⟩) hS0 ?_
                    · rintro w6 ⟨k1, k2⟩
                      go_simp
                    simp only [Act.put, List.setIfInBounds_toArray, List.set_cons_zero, List.set_cons_succ]
                    refine wpAnyH_take (i := 26) (v := .pointer (some ⟨g, off + (i + 1), none⟩)) (lit rfl) (by kernel_rfl) (by kernel_rfl) (by kernel_rfl) (fun _ _ _ h => h) (Or.inl ⟨by rfl, ?_⟩) hS0 ?_
                    · rintro w6 ⟨k1, k2⟩
                      go_simp
                    simp only [Act.put, List.setIfInBounds_toArray, List.set_cons_zero, List.set_cons_succ]
                    refine wpAnyH_take (i := 27) (v := .int .u64 (x : Int)) (lit rfl) (by kernel_rfl) (by kernel_rfl) (by kernel_rfl) (fun _ _ _ h => h) (Or.inl ⟨by rfl, ?_⟩) hS0 ?_
                    · rintro w6 ⟨k1, k2⟩
                      go_simp
                    simp only [Act.put, List.setIfInBounds_toArray, List.set_cons_zero, List.set_cons_succ]
                    refine wpAnyH_ready (rs := [28]) (by kernel_rfl) (by simp) ?_
                    refine AllReadyH.cons (lit rfl) (fun K5 hK5 => ?_) AllReadyH.nil
                    go_simp
                    go_at_call 14
                    (with_reducible refine (HHE.out _ UD).mono ?_)
                    rintro e7 w7 ⟨rfl, b7⟩
                    have B7 : Below w8.heap.size w8 w7 := below_step HB.out.drew b7
                    have U7b := UD.below b7
                    have hS7 : (fun w' : World => w'.cell? ⟨g, off + (i + 1), none⟩ = some (.int .u64 (x : Int)) ∧ w'.cell? ⟨g, off + i, none⟩ = some (.int .u64 (y : Int))) w7 := ⟨HCK.out _ B7, hyc _ B7⟩
                    clear b7
                    refine hK5.out _ _ hS7 (fun _ => ?_)
                    clear hK5 K5
                    refine wpAnyH_take (i := 29) (v := .bool false) (lit rfl) (by kernel_rfl) (by kernel_rfl) (by kernel_rfl) (fun _ _ _ h => h) (Or.inl ⟨by rfl, ?_⟩) hS7 ?_
                    · rintro w6 ⟨k1, k2⟩
                      go_simp
                    simp only [Act.put, List.setIfInBounds_toArray, List.set_cons_zero, List.set_cons_succ]
                    refine wpAnyH_take (i := 30) (v := .bool false) (lit rfl) (by kernel_rfl) (by kernel_rfl) (by kernel_rfl) (fun _ _ _ h => h) (Or.inl ⟨by rfl, ?_⟩) hS7 ?_
                    · rintro w6 ⟨k1, k2⟩
                      go_simp
                    simp only [Act.put, List.setIfInBounds_toArray, List.set_cons_zero, List.set_cons_succ]
                    refine wpAnyH_done (by kernel_rfl) ?_ _
                    refine hK _ _ ?_
                    have hck7 := HCK.out _ B7
                    go_wp2_with (go_at_call 14; (with_reducible refine (HHE.out _ U7b).mono ?_); rintro e w9 ⟨rfl, b9⟩; have B9 := Lib.hid (below_step B7 b9); clear b9)
                    go_roundw
                    case rel => exact ⟨i + 1 + 1, q + cx, by omega, by go_num, by go_num, hq2, HSS.out, B9.out⟩
                    case measure => simp [intOf]; omega
                · obtain rfl : j = n6 := by omega
                  have hltI4 : ¬ (j : Int) < (j : Int) := by omega
                  have hqk : q = k := by
                    rw [← HS.out, HN6.out, sumTo_all HSR.out, hln]
                  subst hqk
                  go_wp2
                  go_ret
                  exact ⟨rfl, U.out.p.bel⟩
end Go.Proofs.Ytlfmmmgdilencaa
