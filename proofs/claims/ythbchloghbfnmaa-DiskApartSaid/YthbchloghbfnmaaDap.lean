/- The walk of the law DiskApart. -/
import Derived.Test.YthbchloghbfnmaaDot
namespace Go.Proofs.Ythbchloghbfnmaa
open Go.RowKit
set_option linter.unusedVariables false

theorem str_info6 : (Try.prog.info? 9).map (fun i => (i.zero, i.size, i.bytes)) = some (some (.string ⟨#[]⟩), 1, 16) := by kernel_rfl
theorem Row.of_ownv {w : World} {b : Nat} {e : TypeId} {n : Nat} {v : Value} {xs : List Value} (h : w.ownsRow b e 1 v n xs) : ∀ A c, v = .slice A n c → Reads w A xs := fun A c hv => by
  subst hv
  exact (Row.of_own h).reads
theorem own_old {w : World} {b : Nat} {e : TypeId} {n : Nat} {v : Value} {xs : List Value} (h : w.ownsRow b e 1 v n xs) : ∀ A n' c, v = .slice A n' c → ∀ a, A = some a → b ≤ a.block := fun A n' c hv a ha => by
  subst hv ha
  rcases h.2 with ⟨h0, _⟩ | ⟨g, cap, cur, h0, h1, _⟩
  · cases h0
  · injection h0 with h0
    injection h0 with h0
    subst h0
    exact h1
theorem txts_own {w : World} {b : Nat} {n : Nat} {v : Value} {ks : List (List UInt8)} (h : w.ownsRow b 9 1 v n (ks.map txtV)) (hn : n = ks.length) (hm : n ≤ 1000000) (he : ∀ s ∈ ks, s.length ≤ 9223372036854775807) : ∀ A c, v = .slice A n c → Txts w A n ks := fun A c hv =>
  ⟨hn, Row.of_ownv h A c hv, hm, he⟩
theorem kpN_short {ks : List (List UInt8)} {k M : Nat} (h : ∀ s ∈ ks, s.length ≤ M) (hM : 2 ≤ M := by omega) : ∀ s ∈ kpN ks k, s.length ≤ M := fun s hs => by
  obtain ⟨i, hi⟩ := List.mem_iff_getElem?.1 hs
  simp only [kpN, List.getElem?_mapIdx] at hi
  cases hq : ks[i]? with
  | none => simp [hq] at hi
  | some y =>
    simp only [hq, Option.map_some, Option.some.injEq] at hi
    split at hi
    · subst hi
      exact h _ (List.mem_of_getElem? hq)
    · subst hi
      exact hM
theorem looL_len {w0 w : World} {T : Tg} {d D A N : Nat} {rs : List Rg} {x : Int} (h : Dz w0 w T d D A N rs) (hN : N ≤ 1000) : (looL rs x).length ≤ 1000000 := by
  unfold looL
  split
  · simp
  · rename_i r hr
    have := h.few r (List.mem_of_getElem? (regN_some hr).2.2)
    simp
    omega
set_option maxRecDepth 100000 in
set_option maxHeartbeats 8000000 in
theorem walkApart (A : Option Addr) (n c a : Nat) (l : List Sx) (w : World) (hl : StepsA w A n l) (hn : n ≤ 9223372036854775807) (ha : a ≤ 255) :
    Calls Try.prog 4 #[.slice A n c, .int .u8 (a : Int)] w fun e w' => e = .returned (.bool true) ∧ Below w.heap.size w w' := by
  have HS := Lib.hid hl
  clear hl
  cases hsm : smB l with
  | false =>
    have hsm2 := Lib.hid hsm
    clear hsm
    go_enter Try.func4, Try.ntmps4
    go_wp2_with (first
      | (go_at_call 8; (with_reducible refine (awake06_any _).mono ?_); rintro e w1 ⟨rfl, h0⟩; have B1 := Lib.hid h0; clear h0)
      | (go_at_call 9; have hq := small_any _ n c l w1 (HS.out.below B1.out) hn; rw [hsm2.out] at hq; (with_reducible refine hq.mono ?_); clear hq; rintro e w2 ⟨rfl, rfl⟩))
    go_ret
    exact ⟨rfl, B1.out⟩
  | true =>
    have HM := Lib.hid hsm
    have hm : n ≤ 40 := by rw [HS.out.len]; exact smB_len hsm
    clear hsm hn
    obtain ⟨k, hk⟩ : ∃ k, a % 3 = k := ⟨_, rfl⟩
    have hk3 : k < 3 := by omega
    have hkm : (a : Int).tmod 3 = (k : Int) := by rw [Int.tmod_eq_emod_of_nonneg (by omega)]; omega
    clear hk
    obtain ⟨r0, hr0⟩ : ∃ q, ([4, 4, 4].map fun x : Int => fresh6 x.toNat) = q := ⟨_, rfl⟩
    have HR0 := Lib.hid hr0
    have HRL : Hid (r0.length = 3) := Lib.hid (by rw [← hr0]; rfl)
    clear hr0
    obtain ⟨j0, hj, jz0, jz1, jz2⟩ := info_parts str_info6
    go_enter Try.func4, Try.ntmps4
    go_wp2_with (first
      | (go_at_call 8; (with_reducible refine (awake06_any _).mono ?_); rintro e w1 ⟨rfl, h0⟩; have B1 := Lib.hid h0; clear h0)
      | (go_at_call 9; have hq := small_any _ n c l w1 (HS.out.below B1.out) (by omega); rw [HM.out] at hq; (with_reducible refine hq.mono ?_); clear hq; rintro e w2 ⟨rfl, rfl⟩)
      | (go_at_call 10; have hI : Ints6 (w1.alloc (.cells #[.int .i64 4, .int .i64 4, .int .i64 4] 3)) (some ⟨w1.heap.size, 0, none⟩) 3 [4, 4, 4] := ints_lit w1 [4, 4, 4] _ rfl; have hq := New_z (w0 := w) (c := 3) 0 hI (lo_none _ _) (below_alloc' B1.out _) (by decide); rw [HR0.out] at hq; (with_reducible refine hq.mono ?_); clear hq hI; rintro e w3 ⟨D, DA, T3, rfl, h1, _, _⟩; have Z3 := Lib.hid h1; clear h1)
      | (go_at_call 10; have hI : Ints6 (w3.alloc (.cells #[.int .i64 4, .int .i64 4, .int .i64 4] 3)) (some ⟨w3.heap.size, 0, none⟩) 3 [4, 4, 4] := ints_lit w3 [4, 4, 4] _ rfl; have ZZ := Z3.out.below ((Below.refl _ w3).alloc (Nat.le_refl _) (.cells #[.int .i64 4, .int .i64 4, .int .i64 4] 3)); have hq := New_z (w0 := w) (c := 3) 1 hI ZZ.lo ZZ.bel (by decide); rw [HR0.out] at hq; (with_reducible refine hq.mono ?_); clear hq hI; rintro e w4 ⟨E, EA, T4, rfl, h1, h2, _⟩; have Y4 := Lib.hid h1; have Z4 := Lib.hid (ZZ.other h2 (by decide)); clear h1 h2 ZZ))
    go_loopw [12] (fun q wr => ∃ (i : Nat) (ra rb : List Rg) (T : Tg), i ≤ n ∧ q = .int .i64 (i : Int) ∧ Dz w wr T 0 D DA i ra ∧ Dz w wr T 1 E EA i rb ∧ ra.length = 3 ∧ rb.length = 3 ∧ regN ra (k : Int) = regN rb (k : Int)) (fun q _ => n - (intOf q).toNat)
    case atStart => exact ⟨0, r0, r0, T4, Nat.zero_le _, rfl, Z4.out, Y4.out, HRL.out, HRL.out, rfl⟩
    case round =>
      obtain ⟨i, ra, rb, T, hi, rfl, hz, hy, hla, hlb, hab⟩ := hrel
      have HZ := Lib.hid hz
      have HY := Lib.hid hy
      have HLA := Lib.hid hla
      have HLB := Lib.hid hlb
      have HAB := Lib.hid hab
      clear hz hy hla hlb hab
      by_cases hlt : i < n
      · obtain ⟨x, b, off, hx, rfl, hbl, c0, c1, c2, c3, c4, c5⟩ := HS.out.at_ HZ.out.bel hlt
        have HX := Lib.hid hx
        have HKP := Lib.hid (HS.out.keep x (List.mem_of_getElem? hx))
        have HK8 : Hid (x.s.keep.length ≤ 8) := Lib.hid (smB_keep HM.out (List.mem_of_getElem? hx))
        have HXM := Lib.hid (List.mem_of_getElem? hx)
        clear hx
        have i1 : (i : Int) < n := by omega
        have hmx : Try.prog.follows .mixedOrders = true := by kernel_rfl
        have hb0 : Below wr.heap.size wr (wr.alloc (.cells x.cells 35)) := (Below.refl _ wr).alloc (Nat.le_refl _) _
        have Z1 : Hid (Dz w (wr.alloc (.cells #[.int .i64 x.s.kind, .int .i64 x.s.region, .int .i64 x.s.page, .int .u8 (x.s.fill.toNat : Int), .bool x.s.short, .slice x.ka x.kn x.kc] 35)) T 0 D DA i ra) := Lib.hid (HZ.out.below hb0)
        have Y1 : Hid (Dz w (wr.alloc (.cells #[.int .i64 x.s.kind, .int .i64 x.s.region, .int .i64 x.s.page, .int .u8 (x.s.fill.toNat : Int), .bool x.s.short, .slice x.ka x.kn x.kc] 35)) T 1 E EA i rb) := Lib.hid (HY.out.below hb0)
        have X1 : Hid (Bk (wr.alloc (.cells #[.int .i64 x.s.kind, .int .i64 x.s.region, .int .i64 x.s.page, .int .u8 (x.s.fill.toNat : Int), .bool x.s.short, .slice x.ka x.kn x.kc] 35)) T wr.heap.size 35 x.cells) := Lib.hid ⟨Has.made wr 35 _, HZ.out.lo.un (Nat.le_refl _)⟩
        clear hb0
        by_cases k3 : x.s.kind = 3
        · have e3 : (x.s.kind == 3) = true := by simpa using k3
          clear k3
          have HTX := Lib.hid (fun w2 (h2 : Below w.heap.size w w2) => HS.out.txts h2 HXM.out HK8.out)
          have hkn : Hid (x.kn = x.s.keep.length) := Lib.hid HKP.out.2.2.2.1
          have HOB : Hid (0 < x.kn → ∀ a, x.ka = some a → a.block < w.heap.size) := Lib.hid HKP.out.2.2.2.2.2.2
          obtain ⟨kA, hkA⟩ : ∃ q, x.ka = q := ⟨_, rfl⟩
          obtain ⟨kn, hkn2⟩ : ∃ q, x.kn = q := ⟨_, rfl⟩
          obtain ⟨kc, hkc⟩ : ∃ q, x.kc = q := ⟨_, rfl⟩
          obtain ⟨ks, hks⟩ : ∃ q, x.s.keep = q := ⟨_, rfl⟩
          have HXC : Hid (x.cells = #[.int .i64 x.s.kind, .int .i64 x.s.region, .int .i64 x.s.page, .int .u8 (x.s.fill.toNat : Int), .bool x.s.short, .slice kA kn kc]) := Lib.hid (by unfold Sx.cells; rw [hkA, hkn2, hkc])
          rw [hkA, hkn2, hkc] at c5 Z1 Y1 X1
          rw [hkA, hkn2] at HOB
          rw [hkA, hkn2, hks] at HTX
          rw [hkn2, hks] at hkn
          rw [hks] at HK8
          have hkb8 : kn ≤ 8 := by rw [hkn.out]; exact HK8.out
          clear hkA hkn2 hkc
          go_wp2_with (go_at_call 19; have hq := Crash_z kA kn kc ks Z1.out (by omega) (HTX.out _ Z1.out.bel) (fun h0 a ha => by cases hT : T a.block with | none => rfl | some t => exact absurd (Z1.out.lo _ _ hT).1 (by have := HOB.out h0 a ha; omega)) (by have := HLA.out; omega); (with_reducible refine hq.mono ?_); clear hq; rintro e w5 ⟨rfl, T5, h1, h2⟩; have Z5 := Lib.hid h1; have Y5 := Lib.hid (Y1.out.other h2 (by decide)); have X5 := Lib.hid (X1.out.tn h2); clear h1 h2)
          go_loopw [14, 15] (fun v q wr => ∃ (r : Nat), r ≤ kn ∧ q = .int .i64 (r : Int) ∧ wr.ownsRow w5.heap.size 9 1 v r (((kpN ks k).take r).map txtV) ∧ Below w5.heap.size w5 wr) (fun _ q _ => kn - (intOf q).toNat)
          case atStart => exact ⟨0, Nat.zero_le _, rfl, World.ownsRow_nil _ _ _ _, Below.refl _ _⟩
          case round =>
            obtain ⟨r, hr, rfl, ho, hb⟩ := hrel
            have HO := Lib.hid ho
            have HB := Lib.hid hb
            have X6 := Lib.hid (X5.out.below hb)
            have c5b := X6.out.has.cell 5
            rw [HXC.out] at c5b
            simp only [List.getElem?_toArray, List.getElem?_cons_succ, List.getElem?_cons_zero] at c5b
            clear ho hb
            by_cases hrn : r < kn
            · have r0 : (0 : Int) ≤ r := by omega
              have r1 : (r : Int) < kn := by omega
              have hrk : r < ks.length := by rw [← hkn.out]; exact hrn
              obtain ⟨s, hs⟩ : ∃ s, ks[r]? = some s := ⟨_, List.getElem?_eq_getElem hrk⟩
              obtain ⟨kb, ko, rfl, hkc⟩ := (HTX.out _ (below_step Z5.out.bel HB.out)).reads (by rw [List.length_map]; omega)
              have cs : wr.cell? ⟨kb, ko + r, none⟩ = some (.string ⟨s.toArray⟩) := hkc r _ (by rw [List.getElem?_map, hs]; rfl)
              obtain ⟨sz, hsz⟩ : ∃ q : ByteArray, (⟨s.toArray⟩ : ByteArray) = q := ⟨_, rfl⟩
              have NEXT := Lib.hid (kpN_take (k := k) hs)
              have HSZ : Hid (txtV s = .string sz) := Lib.hid (by rw [← hsz]; rfl)
              rw [hsz] at cs
              clear hkc hs hrk hsz
              by_cases hrk : r = k
              · have e5 : ((r : Int) == (k : Int)) = true := by simp; omega
                rw [if_pos hrk, HSZ.out] at NEXT
                clear hrk
                go_wp2_with (at_builtin; refine wpList_append_own _ rfl _ _ 33 rfl w5.heap.size 9 j0 (.string ⟨#[]⟩) 1 16 Try.underlying33 hj jz0 jz1 jz2 rfl (by decide) _ r _ rfl (HO.out.alloc _) ⟨wr.heap.size, 0, none⟩ 1 1 [.string sz] rfl rfl ?_ ?_ ?_ ?_ ?_ ?_; (exact cell_one_new _ _ _); (intro u hu; simp at hu; subst hu; rfl); (unfold maxLen; omega); (omega); (have hq := HB.out.size; simp; omega); intro v4 w4 h7 h8 h9; have O4 := Lib.hid h7; have B4 := Lib.hid (below_ownR (HB.out.alloc HB.out.size (.cells #[.string sz] 9)) h8 (HO.out.alloc (.cells #[.string sz] 9)) (by have := HB.out.size; simp; omega)); clear h7 h8 h9)
                go_roundw
                case rel => exact ⟨r + 1, by omega, by go_num, by rw [NEXT.out]; exact O4.out, B4.out⟩
                case measure => simp [intOf]; omega
              · have e5 : ((r : Int) == (k : Int)) = false := by simp; omega
                rw [if_neg hrk] at NEXT
                have NEXT : Hid (((kpN ks k).take (r + 1)).map txtV = ((kpN ks k).take r).map txtV ++ [.string ⟨#[255, 255]⟩]) := NEXT
                clear hrk
                go_wp2_with (at_builtin; refine wpList_append_own _ rfl _ _ 33 rfl w5.heap.size 9 j0 (.string ⟨#[]⟩) 1 16 Try.underlying33 hj jz0 jz1 jz2 rfl (by decide) _ r _ rfl (HO.out.alloc _) ⟨wr.heap.size, 0, none⟩ 1 1 [.string ⟨#[255, 255]⟩] rfl rfl ?_ ?_ ?_ ?_ ?_ ?_; (exact cell_one_new _ _ _); (intro u hu; simp at hu; subst hu; rfl); (unfold maxLen; omega); (omega); (have hq := HB.out.size; simp; omega); intro v4 w4 h7 h8 h9; have O4 := Lib.hid h7; have B4 := Lib.hid (below_ownR (HB.out.alloc HB.out.size (.cells #[.string ⟨#[255, 255]⟩] 9)) h8 (HO.out.alloc (.cells #[.string ⟨#[255, 255]⟩] 9)) (by have := HB.out.size; simp; omega)); clear h7 h8 h9)
                go_roundw
                case rel => exact ⟨r + 1, by omega, by go_num, by rw [NEXT.out]; exact O4.out, B4.out⟩
                case measure => simp [intOf]; omega
            · obtain rfl : r = kn := by omega
              have hall : (kpN ks k).take r = kpN ks k := List.take_of_length_le (by rw [kpN_len, ← hkn.out]; exact Nat.le_refl _)
              have HRO := HO.out
              rw [hall] at HRO
              have HTY := Lib.hid (txts_own HRO (by rw [kpN_len, ← hkn.out]) (by have := HK8.out; have := hkn.out; omega) (kpN_short (HTX.out _ Z1.out.bel).each))
              have HOW := Lib.hid (own_old HRO)
              obtain ⟨vA, vc, rfl⟩ := own_slw HRO
              have Z6 := Lib.hid (Z5.out.below HB.out)
              have Y6 := Lib.hid (Y5.out.below HB.out)
              clear HRO hall
              go_wp2_with (go_at_call 19; have hq := Crash_z vA r vc (kpN ks k) Y6.out (by omega) (HTY.out _ _ rfl) (fun h0 a ha => Y5.out.lo.un (HOW.out _ _ _ rfl a ha)) (by have := HLB.out; omega); (with_reducible refine hq.mono ?_); clear hq; rintro e w8 ⟨rfl, TT, h1, h2⟩; have YT := Lib.hid (h1.more (Nat.le_succ i)); have ZT := Lib.hid ((Z6.out.other h2 (by decide)).more (Nat.le_succ i)); clear h1 h2)
              have HLAT : Hid ((crA ks ra).length = 3) := Lib.hid (by rw [set_len_crA]; exact HLA.out)
              have HLBT : Hid ((crA (kpN ks k) rb).length = 3) := Lib.hid (by rw [set_len_crA]; exact HLB.out)
              have HABT := Lib.hid (cr_alike HAB.out ks)
              generalize crA ks ra = ra2, crA (kpN ks k) rb = rb2 at YT ZT HLAT HLBT HABT
              go_loopw [16] (fun q wr => ∃ (p : Nat), p ≤ 4 ∧ q = .int .i64 (p : Int) ∧ Dz w wr TT 0 D DA (i + 1) ra2 ∧ Dz w wr TT 1 E EA (i + 1) rb2) (fun q _ => 4 - (intOf q).toNat)
              case atStart => exact ⟨0, Nat.zero_le _, rfl, ZT.out, YT.out⟩
              case round =>
                obtain ⟨p, hp0, rfl, hz, hy⟩ := hrel
                have HZ2 := Lib.hid hz
                have HY2 := Lib.hid hy
                clear hz hy
                by_cases hp : p < 4
                · have p1 : (p : Int) < 4 := by omega
                  obtain ⟨q1, q2, _, _⟩ := rd_alike HABT.out (p : Int)
                  obtain ⟨er, her⟩ : ∃ er, rdE ra2 (k : Int) (p : Int) = er := ⟨_, rfl⟩
                  obtain ⟨lr, hlr⟩ : ∃ lr, rdL ra2 (k : Int) (p : Int) = lr := ⟨_, rfl⟩
                  rw [her] at q1
                  rw [hlr] at q2
                  have HRA := Lib.hid (fun w1 (h1 : Dz w w1 TT 0 D DA (i + 1) ra2) => her ▸ hlr ▸ Read_z (k : Int) (p : Int) h1)
                  have HRB := Lib.hid (fun w1 (h1 : Dz w w1 TT 1 E EA (i + 1) rb2) => q1 ▸ q2 ▸ Read_z (k : Int) (p : Int) h1)
                  clear her hlr q1 q2
                  by_cases he : er = 0
                  · subst he
                    go_wp2_with (first
                      | (go_at_call 21; (with_reducible refine (HRA.out _ HZ2.out).mono ?_); intro e wc hr; obtain ⟨h1, gx, rfl, h3, h4, h5⟩ := rd_ok hr; have Zc := Lib.hid (HZ2.out.below h1); have Yc := Lib.hid (HY2.out.below h1); have Xc : Hid (Bk wc TT gx 88 _) := Lib.hid ⟨h4, HZ2.out.lo.un h3⟩; have HL5 := Lib.hid h5; clear hr h1 h3 h4 h5)
                      | (go_at_call 21; (with_reducible refine (HRB.out _ Yc.out).mono ?_); intro e wd hr; obtain ⟨h1, gy, rfl, h3, h4, h5⟩ := rd_ok hr; have Zd := Lib.hid (Zc.out.below h1); have Yd := Lib.hid (Yc.out.below h1); have Xd := Lib.hid (Xc.out.below h1); have Vd : Hid (Bk wd TT gy 88 _) := Lib.hid ⟨h4, Yc.out.lo.un h3⟩; have sx := str_reads (n := 128) (c := 128) HL5.out.symm Xd.out.reads; have sy := str_reads (n := 128) (c := 128) HL5.out.symm Vd.out.reads; clear hr h1 h3 h4 h5))
                    go_roundw
                    case rel => exact ⟨p + 1, by omega, by go_num, Zd.out, Yd.out⟩
                    case measure => simp [intOf]; omega
                  · have HE := Lib.hid he
                    clear he
                    go_wp2_with (first
                      | (go_at_call 21; (with_reducible refine (HRA.out _ HZ2.out).mono ?_); intro e wc hr; obtain ⟨h1, rfl⟩ := rd_no HE.out hr; have Zc := Lib.hid (HZ2.out.below h1); have Yc := Lib.hid (HY2.out.below h1); clear hr h1)
                      | (go_at_call 21; (with_reducible refine (HRB.out _ Yc.out).mono ?_); intro e wd hr; obtain ⟨h1, rfl⟩ := rd_no HE.out hr; have Zd := Lib.hid (Zc.out.below h1); have Yd := Lib.hid (Yc.out.below h1); have sx := str_reads (w := wd) (n := 0) (c := 0) (A := none) (l := []) rfl Reads.empty; clear hr h1))
                    go_roundw
                    case rel => exact ⟨p + 1, by omega, by go_num, Zd.out, Yd.out⟩
                    case measure => simp [intOf]; omega
                · obtain rfl : p = 4 := by omega
                  obtain ⟨_, _, q3, q4⟩ := rd_alike HABT.out 0
                  obtain ⟨ll, hll⟩ : ∃ ll, looL ra2 (k : Int) = ll := ⟨_, rfl⟩
                  obtain ⟨dd, hdd⟩ : ∃ dd, downN ra2 (k : Int) = dd := ⟨_, rfl⟩
                  have HLLA := Lib.hid (fun w1 (h1 : Dz w w1 TT 0 D DA (i + 1) ra2) => hll ▸ Loose_z (k : Int) h1 (by omega))
                  have HLLB := Lib.hid (fun w1 (h1 : Dz w w1 TT 1 E EA (i + 1) rb2) => (q3.symm.trans hll) ▸ Loose_z (k : Int) h1 (by omega))
                  have HDDA := Lib.hid (fun w1 (h1 : Dz w w1 TT 0 D DA (i + 1) ra2) => hdd ▸ down_any (k : Int) h1.dk)
                  have HDDB := Lib.hid (fun w1 (h1 : Dz w w1 TT 1 E EA (i + 1) rb2) => (q4.symm.trans hdd) ▸ down_any (k : Int) h1.dk)
                  have HLL : Hid (ll.length ≤ 1000000) := Lib.hid (by rw [← hll]; exact looL_len HZ2.out (by omega))
                  clear q3 q4 hll hdd
                  go_wp2_with (first
                    | (go_at_call 25; (with_reducible refine (HLLA.out _ HZ2.out).mono ?_); rintro e wc ⟨vl, rfl, h1, h2⟩; have RA := Lib.hid (Row.of_ownv h1); obtain ⟨lAc, lcc, rfl⟩ := own_slw h1; have Zc := Lib.hid (HZ2.out.below h2); have Yc := Lib.hid (HY2.out.below h2); clear h1 h2)
                    | (go_at_call 25; (with_reducible refine (HLLB.out _ Yc.out).mono ?_); rintro e wd ⟨vl, rfl, h1, h2⟩; have RB := Lib.hid (Row.of_ownv h1); obtain ⟨lAd, lcd, rfl⟩ := own_slw h1; have Zd := Lib.hid (Zc.out.below h2); have Yd := Lib.hid (Yc.out.below h2); have RA2 := Lib.hid ((RA.out _ _ rfl).keep_ h2); clear h1 h2)
                    | (go_at_call 24; (with_reducible refine (r3Ints_z ll _ _ _ _ _ wd rfl RA2.out (RB.out _ _ rfl) HLL.out).mono ?_); rintro e we ⟨rfl, h1⟩; have Ze := Lib.hid (Zd.out.below h1); have Ye := Lib.hid (Yd.out.below h1); clear h1)
                    | (go_at_call 23; (with_reducible refine (HDDA.out _ Ze.out).mono ?_); rintro e wf ⟨rfl, rfl⟩)
                    | (go_at_call 23; (with_reducible refine (HDDB.out _ Ye.out).mono ?_); rintro e wf ⟨rfl, rfl⟩))
                  go_roundw
                  case rel => exact ⟨i + 1, ra2, rb2, TT, by omega, by go_num, Ze.out, Ye.out, HLAT.out, HLBT.out, HABT.out⟩
                  case measure => simp [intOf]; omega
        · have e3 : (x.s.kind == 3) = false := by simpa using k3
          have HPG : Hid (x.s.page ≤ 9223372036854775807) := Lib.hid HKP.out.2.2.1
          clear k3
          by_cases kr : x.s.region = (k : Int)
          · have er : (x.s.region != (k : Int)) = false := by simpa using kr
            clear kr
            by_cases k0 : x.s.kind = 0
            · have e0 : (x.s.kind == 0) = true := by simpa using k0
              clear k0
              obtain ⟨hw1, hw2⟩ := wr_alike HAB.out x.s.page (pgB x.s)
              obtain ⟨eq, heq⟩ : ∃ q, (wrA ra (k : Int) x.s.page (pgB x.s)).2 = q := ⟨_, rfl⟩
              have HEA := Lib.hid heq
              have HEB := Lib.hid (hw2.symm.trans heq)
              have HLAT : Hid ((wrA ra (k : Int) x.s.page (pgB x.s)).1.length = 3) := Lib.hid (by rw [set_len_wrA]; exact HLA.out)
              have HLBT : Hid ((wrA rb (k : Int) x.s.page (pgB x.s)).1.length = 3) := Lib.hid (by rw [set_len_wrA]; exact HLB.out)
              have HABT := Lib.hid hw1
              clear hw1 hw2 heq
              have Z2 := Lib.hid Z1.out.drew
              have Y2 := Lib.hid Y1.out.drew
              have X2 : Hid (Bk (wr.alloc (.cells #[.int .i64 x.s.kind, .int .i64 x.s.region, .int .i64 x.s.page, .int .u8 (x.s.fill.toNat : Int), .bool x.s.short, .slice x.ka x.kn x.kc] 35)).drew T wr.heap.size 35 x.cells) := Lib.hid ⟨X1.out.has, X1.out.un⟩
              have HP := Lib.hid (fun w1 => show Calls Try.prog 13 #[.agg #[.int .i64 x.s.kind, .int .i64 x.s.region, .int .i64 x.s.page, .int .u8 (x.s.fill.toNat : Int), .bool x.s.short, .slice x.ka x.kn x.kc]] w1 (PgEnd (pgB x.s) w1) from page_any x.s x.kv rfl w1)
              have hS : (fun w' : World => Sbox w' wr.heap.size x) _ := Sbox.of X2.out.has
              go_wp2
              rename_i K hK
              refine wp_held (fun w' : World => Sbox w' wr.heap.size x) K hmx ?_ (fun _ _ h => h)
              refine wpAnyH_take (i := 0) (v := .pointer (some ⟨D, 0, none⟩)) rfl (by kernel_rfl) (by kernel_rfl) (by kernel_rfl) (fun _ _ _ h => h) (Or.inl ⟨by rfl, ?_⟩) hS ?_
              · rintro w6 ⟨c0, c1, c2, c3, c4, c5⟩
                go_simp
              simp only [Act.put, List.setIfInBounds_toArray, List.set_cons_zero, List.set_cons_succ, List.getElem_toArray, List.getElem_cons_zero]
              refine wpAnyH_take (i := 1) (v := .int .i64 (k : Int)) rfl (by kernel_rfl) (by kernel_rfl) (by kernel_rfl) (fun _ _ _ h => h) (Or.inl ⟨by rfl, ?_⟩) hS ?_
              · rintro w6 ⟨c0, c1, c2, c3, c4, c5⟩
                go_simp
              simp only [Act.put, List.setIfInBounds_toArray, List.set_cons_zero, List.set_cons_succ, List.getElem_toArray, List.getElem_cons_zero, List.getElem_cons_succ]
              refine wpAnyH_take (i := 2) (v := .pointer (some ⟨wr.heap.size, 2, none⟩)) rfl (by kernel_rfl) (by kernel_rfl) (by kernel_rfl) (fun _ _ _ h => h) (Or.inl ⟨by rfl, ?_⟩) hS ?_
              · rintro w6 ⟨c0, c1, c2, c3, c4, c5⟩
                go_simp
              simp only [Act.put, List.setIfInBounds_toArray, List.set_cons_zero, List.set_cons_succ, List.getElem_toArray, List.getElem_cons_zero, List.getElem_cons_succ]
              refine wpAnyH_take (i := 3) (v := .int .i64 x.s.page) rfl (by kernel_rfl) (by kernel_rfl) (by kernel_rfl) (fun _ _ _ h => h) (Or.inl ⟨by rfl, ?_⟩) hS ?_
              · rintro w6 ⟨c0, c1, c2, c3, c4, c5⟩
                go_simp
              simp only [Act.put, List.setIfInBounds_toArray, List.set_cons_zero, List.set_cons_succ, List.getElem_toArray, List.getElem_cons_zero, List.getElem_cons_succ]
              refine wpAnyH_take (i := 4) (v := .agg #[.int .i64 x.s.kind, .int .i64 x.s.region, .int .i64 x.s.page, .int .u8 (x.s.fill.toNat : Int), .bool x.s.short, .slice x.ka x.kn x.kc]) rfl (by kernel_rfl) (by kernel_rfl) (by kernel_rfl) (fun _ _ _ h => h) (Or.inl ⟨by rfl, ?_⟩) hS ?_
              · rintro w6 ⟨c0, c1, c2, c3, c4, c5⟩
                go_simp
              simp only [Act.put, List.setIfInBounds_toArray, List.set_cons_zero, List.set_cons_succ, List.getElem_toArray, List.getElem_cons_zero, List.getElem_cons_succ]
              refine wpAnyH_take (i := 7) (v := .pointer (some ⟨E, 0, none⟩)) rfl (by kernel_rfl) (by kernel_rfl) (by kernel_rfl) (fun _ _ _ h => h) (Or.inl ⟨by rfl, ?_⟩) hS ?_
              · rintro w6 ⟨c0, c1, c2, c3, c4, c5⟩
                go_simp
              simp only [Act.put, List.setIfInBounds_toArray, List.set_cons_zero, List.set_cons_succ, List.getElem_toArray, List.getElem_cons_zero, List.getElem_cons_succ]
              refine wpAnyH_take (i := 8) (v := .int .i64 (k : Int)) rfl (by kernel_rfl) (by kernel_rfl) (by kernel_rfl) (fun _ _ _ h => h) (Or.inl ⟨by rfl, ?_⟩) hS ?_
              · rintro w6 ⟨c0, c1, c2, c3, c4, c5⟩
                go_simp
              simp only [Act.put, List.setIfInBounds_toArray, List.set_cons_zero, List.set_cons_succ, List.getElem_toArray, List.getElem_cons_zero, List.getElem_cons_succ]
              refine wpAnyH_take (i := 9) (v := .pointer (some ⟨wr.heap.size, 2, none⟩)) rfl (by kernel_rfl) (by kernel_rfl) (by kernel_rfl) (fun _ _ _ h => h) (Or.inl ⟨by rfl, ?_⟩) hS ?_
              · rintro w6 ⟨c0, c1, c2, c3, c4, c5⟩
                go_simp
              simp only [Act.put, List.setIfInBounds_toArray, List.set_cons_zero, List.set_cons_succ, List.getElem_toArray, List.getElem_cons_zero, List.getElem_cons_succ]
              refine wpAnyH_take (i := 10) (v := .int .i64 x.s.page) rfl (by kernel_rfl) (by kernel_rfl) (by kernel_rfl) (fun _ _ _ h => h) (Or.inl ⟨by rfl, ?_⟩) hS ?_
              · rintro w6 ⟨c0, c1, c2, c3, c4, c5⟩
                go_simp
              simp only [Act.put, List.setIfInBounds_toArray, List.set_cons_zero, List.set_cons_succ, List.getElem_toArray, List.getElem_cons_zero, List.getElem_cons_succ]
              refine wpAnyH_take (i := 11) (v := .agg #[.int .i64 x.s.kind, .int .i64 x.s.region, .int .i64 x.s.page, .int .u8 (x.s.fill.toNat : Int), .bool x.s.short, .slice x.ka x.kn x.kc]) rfl (by kernel_rfl) (by kernel_rfl) (by kernel_rfl) (fun _ _ _ h => h) (Or.inl ⟨by rfl, ?_⟩) hS ?_
              · rintro w6 ⟨c0, c1, c2, c3, c4, c5⟩
                go_simp
              simp only [Act.put, List.setIfInBounds_toArray, List.set_cons_zero, List.set_cons_succ, List.getElem_toArray, List.getElem_cons_zero, List.getElem_cons_succ]
              refine wpAnyH_ready (rs := [5]) (by kernel_rfl) (by simp) ?_
              refine AllReadyH.cons rfl (fun K5 hK5 => ?_) AllReadyH.nil
              go_simp
              go_at_call 13
              (with_reducible refine (HP.out _).mono ?_)
              rintro e w5 ⟨g5, rfl, h2, h3, h4⟩
              have Z5 := Lib.hid (Z2.out.below h4)
              have Y5 := Lib.hid (Y2.out.below h4)
              have K5b : Hid (Bk w5 T g5 5 _) := Lib.hid ⟨h3, Z2.out.lo.un h2⟩
              have X5 := Lib.hid (X2.out.below h4)
              clear h2 h3 h4
              have hS1 : (fun w' : World => Sbox w' wr.heap.size x) w5 := Sbox.of X5.out.has
              refine hK5.out _ _ hS1 (fun _ => ?_)
              clear hK5 K5
              refine wpAnyH_ready (rs := [6]) (by kernel_rfl) (by simp) ?_
              refine AllReadyH.cons rfl (fun K5 hK5 => ?_) AllReadyH.nil
              go_simp
              go_at_call 12
              have hq := Write_z (k : Int) x.s.page (pgB x.s) g5 Z5.out (by omega) K5b.out
              rw [HEA.out] at hq
              (with_reducible refine hq.mono ?_)
              clear hq
              rintro e w6 ⟨rfl, T6, h1, h2⟩
              have Z6 := Lib.hid h1
              have Y6 := Lib.hid (Y5.out.other h2 (by decide))
              have X6 := Lib.hid (X5.out.tn h2)
              clear h1 h2
              have hS2 : (fun w' : World => Sbox w' wr.heap.size x) w6 := Sbox.of X6.out.has
              refine hK5.out _ _ hS2 (fun _ => ?_)
              clear hK5 K5
              refine wpAnyH_ready (rs := [12]) (by kernel_rfl) (by simp) ?_
              refine AllReadyH.cons rfl (fun K5 hK5 => ?_) AllReadyH.nil
              go_simp
              go_at_call 13
              (with_reducible refine (HP.out _).mono ?_)
              rintro e w7 ⟨g7, rfl, h2, h3, h4⟩
              have Z7 := Lib.hid (Z6.out.below h4)
              have Y7 := Lib.hid (Y6.out.below h4)
              have K7 : Hid (Bk w7 T6 g7 5 _) := Lib.hid ⟨h3, Z6.out.lo.un h2⟩
              have X7 := Lib.hid (X6.out.below h4)
              clear h2 h3 h4
              have hS3 : (fun w' : World => Sbox w' wr.heap.size x) w7 := Sbox.of X7.out.has
              refine hK5.out _ _ hS3 (fun _ => ?_)
              clear hK5 K5
              refine wpAnyH_ready (rs := [13]) (by kernel_rfl) (by simp) ?_
              refine AllReadyH.cons rfl (fun K5 hK5 => ?_) AllReadyH.nil
              go_simp
              go_at_call 12
              have hq := Write_z (k : Int) x.s.page (pgB x.s) g7 Y7.out (by omega) K7.out
              rw [HEB.out] at hq
              (with_reducible refine hq.mono ?_)
              clear hq
              rintro e w8 ⟨rfl, TT, h1, h2⟩
              have YT := Lib.hid h1
              have ZT := Lib.hid (Z7.out.other h2 (by decide))
              have X8 := Lib.hid (X7.out.tn h2)
              clear h1 h2
              have hS4 : (fun w' : World => Sbox w' wr.heap.size x) w8 := Sbox.of X8.out.has
              refine hK5.out _ _ hS4 (fun _ => ?_)
              clear hK5 K5
              refine wpAnyH_take (i := 14) (v := .bool false) rfl (by kernel_rfl) (by kernel_rfl) (by kernel_rfl) (fun _ _ _ h => h) (Or.inl ⟨by rfl, ?_⟩) hS4 ?_
              · rintro w6 ⟨c0, c1, c2, c3, c4, c5⟩
                go_simp
              simp only [Act.put, List.setIfInBounds_toArray, List.set_cons_zero, List.set_cons_succ, List.getElem_toArray, List.getElem_cons_zero, List.getElem_cons_succ]
              refine wpAnyH_done (by kernel_rfl) ?_ _
              refine hK _ _ ?_
              clear hS hS1 hS2 hS3 hS4
              generalize (wrA ra (k : Int) x.s.page (pgB x.s)).1 = ra2, (wrA rb (k : Int) x.s.page (pgB x.s)).1 = rb2 at YT ZT HLAT HLBT HABT
              go_wp2
              go_loopw [16] (fun q wr => ∃ (p : Nat), p ≤ 4 ∧ q = .int .i64 (p : Int) ∧ Dz w wr TT 0 D DA (i + 1) ra2 ∧ Dz w wr TT 1 E EA (i + 1) rb2) (fun q _ => 4 - (intOf q).toNat)
              case atStart => exact ⟨0, Nat.zero_le _, rfl, ZT.out, YT.out⟩
              case round =>
                obtain ⟨p, hp0, rfl, hz, hy⟩ := hrel
                have HZ2 := Lib.hid hz
                have HY2 := Lib.hid hy
                clear hz hy
                by_cases hp : p < 4
                · have p1 : (p : Int) < 4 := by omega
                  obtain ⟨q1, q2, _, _⟩ := rd_alike HABT.out (p : Int)
                  obtain ⟨er, her⟩ : ∃ er, rdE ra2 (k : Int) (p : Int) = er := ⟨_, rfl⟩
                  obtain ⟨lr, hlr⟩ : ∃ lr, rdL ra2 (k : Int) (p : Int) = lr := ⟨_, rfl⟩
                  rw [her] at q1
                  rw [hlr] at q2
                  have HRA := Lib.hid (fun w1 (h1 : Dz w w1 TT 0 D DA (i + 1) ra2) => her ▸ hlr ▸ Read_z (k : Int) (p : Int) h1)
                  have HRB := Lib.hid (fun w1 (h1 : Dz w w1 TT 1 E EA (i + 1) rb2) => q1 ▸ q2 ▸ Read_z (k : Int) (p : Int) h1)
                  clear her hlr q1 q2
                  by_cases he : er = 0
                  · subst he
                    go_wp2_with (first
                      | (go_at_call 21; (with_reducible refine (HRA.out _ HZ2.out).mono ?_); intro e wc hr; obtain ⟨h1, gx, rfl, h3, h4, h5⟩ := rd_ok hr; have Zc := Lib.hid (HZ2.out.below h1); have Yc := Lib.hid (HY2.out.below h1); have Xc : Hid (Bk wc TT gx 88 _) := Lib.hid ⟨h4, HZ2.out.lo.un h3⟩; have HL5 := Lib.hid h5; clear hr h1 h3 h4 h5)
                      | (go_at_call 21; (with_reducible refine (HRB.out _ Yc.out).mono ?_); intro e wd hr; obtain ⟨h1, gy, rfl, h3, h4, h5⟩ := rd_ok hr; have Zd := Lib.hid (Zc.out.below h1); have Yd := Lib.hid (Yc.out.below h1); have Xd := Lib.hid (Xc.out.below h1); have Vd : Hid (Bk wd TT gy 88 _) := Lib.hid ⟨h4, Yc.out.lo.un h3⟩; have sx := str_reads (n := 128) (c := 128) HL5.out.symm Xd.out.reads; have sy := str_reads (n := 128) (c := 128) HL5.out.symm Vd.out.reads; clear hr h1 h3 h4 h5))
                    go_roundw
                    case rel => exact ⟨p + 1, by omega, by go_num, Zd.out, Yd.out⟩
                    case measure => simp [intOf]; omega
                  · have HE := Lib.hid he
                    clear he
                    go_wp2_with (first
                      | (go_at_call 21; (with_reducible refine (HRA.out _ HZ2.out).mono ?_); intro e wc hr; obtain ⟨h1, rfl⟩ := rd_no HE.out hr; have Zc := Lib.hid (HZ2.out.below h1); have Yc := Lib.hid (HY2.out.below h1); clear hr h1)
                      | (go_at_call 21; (with_reducible refine (HRB.out _ Yc.out).mono ?_); intro e wd hr; obtain ⟨h1, rfl⟩ := rd_no HE.out hr; have Zd := Lib.hid (Zc.out.below h1); have Yd := Lib.hid (Yc.out.below h1); have sx := str_reads (w := wd) (n := 0) (c := 0) (A := none) (l := []) rfl Reads.empty; clear hr h1))
                    go_roundw
                    case rel => exact ⟨p + 1, by omega, by go_num, Zd.out, Yd.out⟩
                    case measure => simp [intOf]; omega
                · obtain rfl : p = 4 := by omega
                  obtain ⟨_, _, q3, q4⟩ := rd_alike HABT.out 0
                  obtain ⟨ll, hll⟩ : ∃ ll, looL ra2 (k : Int) = ll := ⟨_, rfl⟩
                  obtain ⟨dd, hdd⟩ : ∃ dd, downN ra2 (k : Int) = dd := ⟨_, rfl⟩
                  have HLLA := Lib.hid (fun w1 (h1 : Dz w w1 TT 0 D DA (i + 1) ra2) => hll ▸ Loose_z (k : Int) h1 (by omega))
                  have HLLB := Lib.hid (fun w1 (h1 : Dz w w1 TT 1 E EA (i + 1) rb2) => (q3.symm.trans hll) ▸ Loose_z (k : Int) h1 (by omega))
                  have HDDA := Lib.hid (fun w1 (h1 : Dz w w1 TT 0 D DA (i + 1) ra2) => hdd ▸ down_any (k : Int) h1.dk)
                  have HDDB := Lib.hid (fun w1 (h1 : Dz w w1 TT 1 E EA (i + 1) rb2) => (q4.symm.trans hdd) ▸ down_any (k : Int) h1.dk)
                  have HLL : Hid (ll.length ≤ 1000000) := Lib.hid (by rw [← hll]; exact looL_len HZ2.out (by omega))
                  clear q3 q4 hll hdd
                  go_wp2_with (first
                    | (go_at_call 25; (with_reducible refine (HLLA.out _ HZ2.out).mono ?_); rintro e wc ⟨vl, rfl, h1, h2⟩; have RA := Lib.hid (Row.of_ownv h1); obtain ⟨lAc, lcc, rfl⟩ := own_slw h1; have Zc := Lib.hid (HZ2.out.below h2); have Yc := Lib.hid (HY2.out.below h2); clear h1 h2)
                    | (go_at_call 25; (with_reducible refine (HLLB.out _ Yc.out).mono ?_); rintro e wd ⟨vl, rfl, h1, h2⟩; have RB := Lib.hid (Row.of_ownv h1); obtain ⟨lAd, lcd, rfl⟩ := own_slw h1; have Zd := Lib.hid (Zc.out.below h2); have Yd := Lib.hid (Yc.out.below h2); have RA2 := Lib.hid ((RA.out _ _ rfl).keep_ h2); clear h1 h2)
                    | (go_at_call 24; (with_reducible refine (r3Ints_z ll _ _ _ _ _ wd rfl RA2.out (RB.out _ _ rfl) HLL.out).mono ?_); rintro e we ⟨rfl, h1⟩; have Ze := Lib.hid (Zd.out.below h1); have Ye := Lib.hid (Yd.out.below h1); clear h1)
                    | (go_at_call 23; (with_reducible refine (HDDA.out _ Ze.out).mono ?_); rintro e wf ⟨rfl, rfl⟩)
                    | (go_at_call 23; (with_reducible refine (HDDB.out _ Ye.out).mono ?_); rintro e wf ⟨rfl, rfl⟩))
                  go_roundw
                  case rel => exact ⟨i + 1, ra2, rb2, TT, by omega, by go_num, Ze.out, Ye.out, HLAT.out, HLBT.out, HABT.out⟩
                  case measure => simp [intOf]; omega
            · have e0 : (x.s.kind == 0) = false := by simpa using k0
              clear k0
              by_cases k1 : x.s.kind = 1
              · have e1 : (x.s.kind == 1) = true := by simpa using k1
                clear k1
                obtain ⟨hw1, hw2⟩ := sy_alike HAB.out
                obtain ⟨eq, heq⟩ : ∃ q, (syA ra (k : Int)).2 = q := ⟨_, rfl⟩
                have HEA := Lib.hid heq
                have HEB := Lib.hid (hw2.symm.trans heq)
                have HLAT : Hid ((syA ra (k : Int)).1.length = 3) := Lib.hid (by rw [set_len_syA]; exact HLA.out)
                have HLBT : Hid ((syA rb (k : Int)).1.length = 3) := Lib.hid (by rw [set_len_syA]; exact HLB.out)
                have HABT := Lib.hid hw1
                clear hw1 hw2 heq
                go_wp2_with (first
                  | (go_at_call 15; have hq := Sync_z (k : Int) Z1.out (by omega); rw [HEA.out] at hq; (with_reducible refine hq.mono ?_); clear hq; rintro e w5 ⟨rfl, T5, h1, h2⟩; have Z5 := Lib.hid h1; have Y5 := Lib.hid (Y1.out.other h2 (by decide)); clear h1 h2)
                  | (go_at_call 15; have hq := Sync_z (k : Int) Y5.out (by omega); rw [HEB.out] at hq; (with_reducible refine hq.mono ?_); clear hq; rintro e w6 ⟨rfl, TT, h1, h2⟩; have YT := Lib.hid (h1.more (Nat.le_succ i)); have ZT := Lib.hid ((Z5.out.other h2 (by decide)).more (Nat.le_succ i)); clear h1 h2))
                generalize (syA ra (k : Int)).1 = ra2, (syA rb (k : Int)).1 = rb2 at YT ZT HLAT HLBT HABT
                go_loopw [16] (fun q wr => ∃ (p : Nat), p ≤ 4 ∧ q = .int .i64 (p : Int) ∧ Dz w wr TT 0 D DA (i + 1) ra2 ∧ Dz w wr TT 1 E EA (i + 1) rb2) (fun q _ => 4 - (intOf q).toNat)
                case atStart => exact ⟨0, Nat.zero_le _, rfl, ZT.out, YT.out⟩
                case round =>
                  obtain ⟨p, hp0, rfl, hz, hy⟩ := hrel
                  have HZ2 := Lib.hid hz
                  have HY2 := Lib.hid hy
                  clear hz hy
                  by_cases hp : p < 4
                  · have p1 : (p : Int) < 4 := by omega
                    obtain ⟨q1, q2, _, _⟩ := rd_alike HABT.out (p : Int)
                    obtain ⟨er, her⟩ : ∃ er, rdE ra2 (k : Int) (p : Int) = er := ⟨_, rfl⟩
                    obtain ⟨lr, hlr⟩ : ∃ lr, rdL ra2 (k : Int) (p : Int) = lr := ⟨_, rfl⟩
                    rw [her] at q1
                    rw [hlr] at q2
                    have HRA := Lib.hid (fun w1 (h1 : Dz w w1 TT 0 D DA (i + 1) ra2) => her ▸ hlr ▸ Read_z (k : Int) (p : Int) h1)
                    have HRB := Lib.hid (fun w1 (h1 : Dz w w1 TT 1 E EA (i + 1) rb2) => q1 ▸ q2 ▸ Read_z (k : Int) (p : Int) h1)
                    clear her hlr q1 q2
                    by_cases he : er = 0
                    · subst he
                      go_wp2_with (first
                        | (go_at_call 21; (with_reducible refine (HRA.out _ HZ2.out).mono ?_); intro e wc hr; obtain ⟨h1, gx, rfl, h3, h4, h5⟩ := rd_ok hr; have Zc := Lib.hid (HZ2.out.below h1); have Yc := Lib.hid (HY2.out.below h1); have Xc : Hid (Bk wc TT gx 88 _) := Lib.hid ⟨h4, HZ2.out.lo.un h3⟩; have HL5 := Lib.hid h5; clear hr h1 h3 h4 h5)
                        | (go_at_call 21; (with_reducible refine (HRB.out _ Yc.out).mono ?_); intro e wd hr; obtain ⟨h1, gy, rfl, h3, h4, h5⟩ := rd_ok hr; have Zd := Lib.hid (Zc.out.below h1); have Yd := Lib.hid (Yc.out.below h1); have Xd := Lib.hid (Xc.out.below h1); have Vd : Hid (Bk wd TT gy 88 _) := Lib.hid ⟨h4, Yc.out.lo.un h3⟩; have sx := str_reads (n := 128) (c := 128) HL5.out.symm Xd.out.reads; have sy := str_reads (n := 128) (c := 128) HL5.out.symm Vd.out.reads; clear hr h1 h3 h4 h5))
                      go_roundw
                      case rel => exact ⟨p + 1, by omega, by go_num, Zd.out, Yd.out⟩
                      case measure => simp [intOf]; omega
                    · have HE := Lib.hid he
                      clear he
                      go_wp2_with (first
                        | (go_at_call 21; (with_reducible refine (HRA.out _ HZ2.out).mono ?_); intro e wc hr; obtain ⟨h1, rfl⟩ := rd_no HE.out hr; have Zc := Lib.hid (HZ2.out.below h1); have Yc := Lib.hid (HY2.out.below h1); clear hr h1)
                        | (go_at_call 21; (with_reducible refine (HRB.out _ Yc.out).mono ?_); intro e wd hr; obtain ⟨h1, rfl⟩ := rd_no HE.out hr; have Zd := Lib.hid (Zc.out.below h1); have Yd := Lib.hid (Yc.out.below h1); have sx := str_reads (w := wd) (n := 0) (c := 0) (A := none) (l := []) rfl Reads.empty; clear hr h1))
                      go_roundw
                      case rel => exact ⟨p + 1, by omega, by go_num, Zd.out, Yd.out⟩
                      case measure => simp [intOf]; omega
                  · obtain rfl : p = 4 := by omega
                    obtain ⟨_, _, q3, q4⟩ := rd_alike HABT.out 0
                    obtain ⟨ll, hll⟩ : ∃ ll, looL ra2 (k : Int) = ll := ⟨_, rfl⟩
                    obtain ⟨dd, hdd⟩ : ∃ dd, downN ra2 (k : Int) = dd := ⟨_, rfl⟩
                    have HLLA := Lib.hid (fun w1 (h1 : Dz w w1 TT 0 D DA (i + 1) ra2) => hll ▸ Loose_z (k : Int) h1 (by omega))
                    have HLLB := Lib.hid (fun w1 (h1 : Dz w w1 TT 1 E EA (i + 1) rb2) => (q3.symm.trans hll) ▸ Loose_z (k : Int) h1 (by omega))
                    have HDDA := Lib.hid (fun w1 (h1 : Dz w w1 TT 0 D DA (i + 1) ra2) => hdd ▸ down_any (k : Int) h1.dk)
                    have HDDB := Lib.hid (fun w1 (h1 : Dz w w1 TT 1 E EA (i + 1) rb2) => (q4.symm.trans hdd) ▸ down_any (k : Int) h1.dk)
                    have HLL : Hid (ll.length ≤ 1000000) := Lib.hid (by rw [← hll]; exact looL_len HZ2.out (by omega))
                    clear q3 q4 hll hdd
                    go_wp2_with (first
                      | (go_at_call 25; (with_reducible refine (HLLA.out _ HZ2.out).mono ?_); rintro e wc ⟨vl, rfl, h1, h2⟩; have RA := Lib.hid (Row.of_ownv h1); obtain ⟨lAc, lcc, rfl⟩ := own_slw h1; have Zc := Lib.hid (HZ2.out.below h2); have Yc := Lib.hid (HY2.out.below h2); clear h1 h2)
                      | (go_at_call 25; (with_reducible refine (HLLB.out _ Yc.out).mono ?_); rintro e wd ⟨vl, rfl, h1, h2⟩; have RB := Lib.hid (Row.of_ownv h1); obtain ⟨lAd, lcd, rfl⟩ := own_slw h1; have Zd := Lib.hid (Zc.out.below h2); have Yd := Lib.hid (Yc.out.below h2); have RA2 := Lib.hid ((RA.out _ _ rfl).keep_ h2); clear h1 h2)
                      | (go_at_call 24; (with_reducible refine (r3Ints_z ll _ _ _ _ _ wd rfl RA2.out (RB.out _ _ rfl) HLL.out).mono ?_); rintro e we ⟨rfl, h1⟩; have Ze := Lib.hid (Zd.out.below h1); have Ye := Lib.hid (Yd.out.below h1); clear h1)
                      | (go_at_call 23; (with_reducible refine (HDDA.out _ Ze.out).mono ?_); rintro e wf ⟨rfl, rfl⟩)
                      | (go_at_call 23; (with_reducible refine (HDDB.out _ Ye.out).mono ?_); rintro e wf ⟨rfl, rfl⟩))
                    go_roundw
                    case rel => exact ⟨i + 1, ra2, rb2, TT, by omega, by go_num, Ze.out, Ye.out, HLAT.out, HLBT.out, HABT.out⟩
                    case measure => simp [intOf]; omega
              · have e1 : (x.s.kind == 1) = false := by simpa using k1
                clear k1
                by_cases k2 : x.s.kind = 2
                · have e2 : (x.s.kind == 2) = true := by simpa using k2
                  clear k2
                  have HLAT : Hid ((stA ra (k : Int) x.s.page).length = 3) := Lib.hid (by rw [set_len_stA]; exact HLA.out)
                  have HLBT : Hid ((stA rb (k : Int) x.s.page).length = 3) := Lib.hid (by rw [set_len_stA]; exact HLB.out)
                  have HABT := Lib.hid (st_alike HAB.out x.s.page)
                  have X1c := c2
                  go_wp2_with (first
                    | (go_at_call 17; have hq := Stop_z (k : Int) x.s.page Z1.out HPG.out; (with_reducible refine hq.mono ?_); clear hq; rintro e w5 ⟨rfl, T5, h1, h2⟩; have Z5 := Lib.hid h1; have Y5 := Lib.hid (Y1.out.other h2 (by decide)); have X5 := (Sbox.of (X1.out.tn h2).has).c2; clear h1 h2)
                    | (go_at_call 17; have hq := Stop_z (k : Int) x.s.page Y5.out HPG.out; (with_reducible refine hq.mono ?_); clear hq; rintro e w6 ⟨rfl, TT, h1, h2⟩; have YT := Lib.hid (h1.more (Nat.le_succ i)); have ZT := Lib.hid ((Z5.out.other h2 (by decide)).more (Nat.le_succ i)); clear h1 h2))
                  generalize stA ra (k : Int) x.s.page = ra2, stA rb (k : Int) x.s.page = rb2 at YT ZT HLAT HLBT HABT
                  go_loopw [16] (fun q wr => ∃ (p : Nat), p ≤ 4 ∧ q = .int .i64 (p : Int) ∧ Dz w wr TT 0 D DA (i + 1) ra2 ∧ Dz w wr TT 1 E EA (i + 1) rb2) (fun q _ => 4 - (intOf q).toNat)
                  case atStart => exact ⟨0, Nat.zero_le _, rfl, ZT.out, YT.out⟩
                  case round =>
                    obtain ⟨p, hp0, rfl, hz, hy⟩ := hrel
                    have HZ2 := Lib.hid hz
                    have HY2 := Lib.hid hy
                    clear hz hy
                    by_cases hp : p < 4
                    · have p1 : (p : Int) < 4 := by omega
                      obtain ⟨q1, q2, _, _⟩ := rd_alike HABT.out (p : Int)
                      obtain ⟨er, her⟩ : ∃ er, rdE ra2 (k : Int) (p : Int) = er := ⟨_, rfl⟩
                      obtain ⟨lr, hlr⟩ : ∃ lr, rdL ra2 (k : Int) (p : Int) = lr := ⟨_, rfl⟩
                      rw [her] at q1
                      rw [hlr] at q2
                      have HRA := Lib.hid (fun w1 (h1 : Dz w w1 TT 0 D DA (i + 1) ra2) => her ▸ hlr ▸ Read_z (k : Int) (p : Int) h1)
                      have HRB := Lib.hid (fun w1 (h1 : Dz w w1 TT 1 E EA (i + 1) rb2) => q1 ▸ q2 ▸ Read_z (k : Int) (p : Int) h1)
                      clear her hlr q1 q2
                      by_cases he : er = 0
                      · subst he
                        go_wp2_with (first
                          | (go_at_call 21; (with_reducible refine (HRA.out _ HZ2.out).mono ?_); intro e wc hr; obtain ⟨h1, gx, rfl, h3, h4, h5⟩ := rd_ok hr; have Zc := Lib.hid (HZ2.out.below h1); have Yc := Lib.hid (HY2.out.below h1); have Xc : Hid (Bk wc TT gx 88 _) := Lib.hid ⟨h4, HZ2.out.lo.un h3⟩; have HL5 := Lib.hid h5; clear hr h1 h3 h4 h5)
                          | (go_at_call 21; (with_reducible refine (HRB.out _ Yc.out).mono ?_); intro e wd hr; obtain ⟨h1, gy, rfl, h3, h4, h5⟩ := rd_ok hr; have Zd := Lib.hid (Zc.out.below h1); have Yd := Lib.hid (Yc.out.below h1); have Xd := Lib.hid (Xc.out.below h1); have Vd : Hid (Bk wd TT gy 88 _) := Lib.hid ⟨h4, Yc.out.lo.un h3⟩; have sx := str_reads (n := 128) (c := 128) HL5.out.symm Xd.out.reads; have sy := str_reads (n := 128) (c := 128) HL5.out.symm Vd.out.reads; clear hr h1 h3 h4 h5))
                        go_roundw
                        case rel => exact ⟨p + 1, by omega, by go_num, Zd.out, Yd.out⟩
                        case measure => simp [intOf]; omega
                      · have HE := Lib.hid he
                        clear he
                        go_wp2_with (first
                          | (go_at_call 21; (with_reducible refine (HRA.out _ HZ2.out).mono ?_); intro e wc hr; obtain ⟨h1, rfl⟩ := rd_no HE.out hr; have Zc := Lib.hid (HZ2.out.below h1); have Yc := Lib.hid (HY2.out.below h1); clear hr h1)
                          | (go_at_call 21; (with_reducible refine (HRB.out _ Yc.out).mono ?_); intro e wd hr; obtain ⟨h1, rfl⟩ := rd_no HE.out hr; have Zd := Lib.hid (Zc.out.below h1); have Yd := Lib.hid (Yc.out.below h1); have sx := str_reads (w := wd) (n := 0) (c := 0) (A := none) (l := []) rfl Reads.empty; clear hr h1))
                        go_roundw
                        case rel => exact ⟨p + 1, by omega, by go_num, Zd.out, Yd.out⟩
                        case measure => simp [intOf]; omega
                    · obtain rfl : p = 4 := by omega
                      obtain ⟨_, _, q3, q4⟩ := rd_alike HABT.out 0
                      obtain ⟨ll, hll⟩ : ∃ ll, looL ra2 (k : Int) = ll := ⟨_, rfl⟩
                      obtain ⟨dd, hdd⟩ : ∃ dd, downN ra2 (k : Int) = dd := ⟨_, rfl⟩
                      have HLLA := Lib.hid (fun w1 (h1 : Dz w w1 TT 0 D DA (i + 1) ra2) => hll ▸ Loose_z (k : Int) h1 (by omega))
                      have HLLB := Lib.hid (fun w1 (h1 : Dz w w1 TT 1 E EA (i + 1) rb2) => (q3.symm.trans hll) ▸ Loose_z (k : Int) h1 (by omega))
                      have HDDA := Lib.hid (fun w1 (h1 : Dz w w1 TT 0 D DA (i + 1) ra2) => hdd ▸ down_any (k : Int) h1.dk)
                      have HDDB := Lib.hid (fun w1 (h1 : Dz w w1 TT 1 E EA (i + 1) rb2) => (q4.symm.trans hdd) ▸ down_any (k : Int) h1.dk)
                      have HLL : Hid (ll.length ≤ 1000000) := Lib.hid (by rw [← hll]; exact looL_len HZ2.out (by omega))
                      clear q3 q4 hll hdd
                      go_wp2_with (first
                        | (go_at_call 25; (with_reducible refine (HLLA.out _ HZ2.out).mono ?_); rintro e wc ⟨vl, rfl, h1, h2⟩; have RA := Lib.hid (Row.of_ownv h1); obtain ⟨lAc, lcc, rfl⟩ := own_slw h1; have Zc := Lib.hid (HZ2.out.below h2); have Yc := Lib.hid (HY2.out.below h2); clear h1 h2)
                        | (go_at_call 25; (with_reducible refine (HLLB.out _ Yc.out).mono ?_); rintro e wd ⟨vl, rfl, h1, h2⟩; have RB := Lib.hid (Row.of_ownv h1); obtain ⟨lAd, lcd, rfl⟩ := own_slw h1; have Zd := Lib.hid (Zc.out.below h2); have Yd := Lib.hid (Yc.out.below h2); have RA2 := Lib.hid ((RA.out _ _ rfl).keep_ h2); clear h1 h2)
                        | (go_at_call 24; (with_reducible refine (r3Ints_z ll _ _ _ _ _ wd rfl RA2.out (RB.out _ _ rfl) HLL.out).mono ?_); rintro e we ⟨rfl, h1⟩; have Ze := Lib.hid (Zd.out.below h1); have Ye := Lib.hid (Yd.out.below h1); clear h1)
                        | (go_at_call 23; (with_reducible refine (HDDA.out _ Ze.out).mono ?_); rintro e wf ⟨rfl, rfl⟩)
                        | (go_at_call 23; (with_reducible refine (HDDB.out _ Ye.out).mono ?_); rintro e wf ⟨rfl, rfl⟩))
                      go_roundw
                      case rel => exact ⟨i + 1, ra2, rb2, TT, by omega, by go_num, Ze.out, Ye.out, HLAT.out, HLBT.out, HABT.out⟩
                      case measure => simp [intOf]; omega
                · have e2 : (x.s.kind == 2) = false := by simpa using k2
                  clear k2
                  have ZT := Lib.hid (Z1.out.more (Nat.le_succ i))
                  have YT := Lib.hid (Y1.out.more (Nat.le_succ i))
                  have HLAT := HLA
                  have HLBT := HLB
                  have HABT := HAB
                  go_wp2
                  go_loopw [16] (fun q wr => ∃ (p : Nat), p ≤ 4 ∧ q = .int .i64 (p : Int) ∧ Dz w wr T 0 D DA (i + 1) ra ∧ Dz w wr T 1 E EA (i + 1) rb) (fun q _ => 4 - (intOf q).toNat)
                  case atStart => exact ⟨0, Nat.zero_le _, rfl, ZT.out, YT.out⟩
                  case round =>
                    obtain ⟨p, hp0, rfl, hz, hy⟩ := hrel
                    have HZ2 := Lib.hid hz
                    have HY2 := Lib.hid hy
                    clear hz hy
                    by_cases hp : p < 4
                    · have p1 : (p : Int) < 4 := by omega
                      obtain ⟨q1, q2, _, _⟩ := rd_alike HABT.out (p : Int)
                      obtain ⟨er, her⟩ : ∃ er, rdE ra (k : Int) (p : Int) = er := ⟨_, rfl⟩
                      obtain ⟨lr, hlr⟩ : ∃ lr, rdL ra (k : Int) (p : Int) = lr := ⟨_, rfl⟩
                      rw [her] at q1
                      rw [hlr] at q2
                      have HRA := Lib.hid (fun w1 (h1 : Dz w w1 T 0 D DA (i + 1) ra) => her ▸ hlr ▸ Read_z (k : Int) (p : Int) h1)
                      have HRB := Lib.hid (fun w1 (h1 : Dz w w1 T 1 E EA (i + 1) rb) => q1 ▸ q2 ▸ Read_z (k : Int) (p : Int) h1)
                      clear her hlr q1 q2
                      by_cases he : er = 0
                      · subst he
                        go_wp2_with (first
                          | (go_at_call 21; (with_reducible refine (HRA.out _ HZ2.out).mono ?_); intro e wc hr; obtain ⟨h1, gx, rfl, h3, h4, h5⟩ := rd_ok hr; have Zc := Lib.hid (HZ2.out.below h1); have Yc := Lib.hid (HY2.out.below h1); have Xc : Hid (Bk wc T gx 88 _) := Lib.hid ⟨h4, HZ2.out.lo.un h3⟩; have HL5 := Lib.hid h5; clear hr h1 h3 h4 h5)
                          | (go_at_call 21; (with_reducible refine (HRB.out _ Yc.out).mono ?_); intro e wd hr; obtain ⟨h1, gy, rfl, h3, h4, h5⟩ := rd_ok hr; have Zd := Lib.hid (Zc.out.below h1); have Yd := Lib.hid (Yc.out.below h1); have Xd := Lib.hid (Xc.out.below h1); have Vd : Hid (Bk wd T gy 88 _) := Lib.hid ⟨h4, Yc.out.lo.un h3⟩; have sx := str_reads (n := 128) (c := 128) HL5.out.symm Xd.out.reads; have sy := str_reads (n := 128) (c := 128) HL5.out.symm Vd.out.reads; clear hr h1 h3 h4 h5))
                        go_roundw
                        case rel => exact ⟨p + 1, by omega, by go_num, Zd.out, Yd.out⟩
                        case measure => simp [intOf]; omega
                      · have HE := Lib.hid he
                        clear he
                        go_wp2_with (first
                          | (go_at_call 21; (with_reducible refine (HRA.out _ HZ2.out).mono ?_); intro e wc hr; obtain ⟨h1, rfl⟩ := rd_no HE.out hr; have Zc := Lib.hid (HZ2.out.below h1); have Yc := Lib.hid (HY2.out.below h1); clear hr h1)
                          | (go_at_call 21; (with_reducible refine (HRB.out _ Yc.out).mono ?_); intro e wd hr; obtain ⟨h1, rfl⟩ := rd_no HE.out hr; have Zd := Lib.hid (Zc.out.below h1); have Yd := Lib.hid (Yc.out.below h1); have sx := str_reads (w := wd) (n := 0) (c := 0) (A := none) (l := []) rfl Reads.empty; clear hr h1))
                        go_roundw
                        case rel => exact ⟨p + 1, by omega, by go_num, Zd.out, Yd.out⟩
                        case measure => simp [intOf]; omega
                    · obtain rfl : p = 4 := by omega
                      obtain ⟨_, _, q3, q4⟩ := rd_alike HABT.out 0
                      obtain ⟨ll, hll⟩ : ∃ ll, looL ra (k : Int) = ll := ⟨_, rfl⟩
                      obtain ⟨dd, hdd⟩ : ∃ dd, downN ra (k : Int) = dd := ⟨_, rfl⟩
                      have HLLA := Lib.hid (fun w1 (h1 : Dz w w1 T 0 D DA (i + 1) ra) => hll ▸ Loose_z (k : Int) h1 (by omega))
                      have HLLB := Lib.hid (fun w1 (h1 : Dz w w1 T 1 E EA (i + 1) rb) => (q3.symm.trans hll) ▸ Loose_z (k : Int) h1 (by omega))
                      have HDDA := Lib.hid (fun w1 (h1 : Dz w w1 T 0 D DA (i + 1) ra) => hdd ▸ down_any (k : Int) h1.dk)
                      have HDDB := Lib.hid (fun w1 (h1 : Dz w w1 T 1 E EA (i + 1) rb) => (q4.symm.trans hdd) ▸ down_any (k : Int) h1.dk)
                      have HLL : Hid (ll.length ≤ 1000000) := Lib.hid (by rw [← hll]; exact looL_len HZ2.out (by omega))
                      clear q3 q4 hll hdd
                      go_wp2_with (first
                        | (go_at_call 25; (with_reducible refine (HLLA.out _ HZ2.out).mono ?_); rintro e wc ⟨vl, rfl, h1, h2⟩; have RA := Lib.hid (Row.of_ownv h1); obtain ⟨lAc, lcc, rfl⟩ := own_slw h1; have Zc := Lib.hid (HZ2.out.below h2); have Yc := Lib.hid (HY2.out.below h2); clear h1 h2)
                        | (go_at_call 25; (with_reducible refine (HLLB.out _ Yc.out).mono ?_); rintro e wd ⟨vl, rfl, h1, h2⟩; have RB := Lib.hid (Row.of_ownv h1); obtain ⟨lAd, lcd, rfl⟩ := own_slw h1; have Zd := Lib.hid (Zc.out.below h2); have Yd := Lib.hid (Yc.out.below h2); have RA2 := Lib.hid ((RA.out _ _ rfl).keep_ h2); clear h1 h2)
                        | (go_at_call 24; (with_reducible refine (r3Ints_z ll _ _ _ _ _ wd rfl RA2.out (RB.out _ _ rfl) HLL.out).mono ?_); rintro e we ⟨rfl, h1⟩; have Ze := Lib.hid (Zd.out.below h1); have Ye := Lib.hid (Yd.out.below h1); clear h1)
                        | (go_at_call 23; (with_reducible refine (HDDA.out _ Ze.out).mono ?_); rintro e wf ⟨rfl, rfl⟩)
                        | (go_at_call 23; (with_reducible refine (HDDB.out _ Ye.out).mono ?_); rintro e wf ⟨rfl, rfl⟩))
                      go_roundw
                      case rel => exact ⟨i + 1, ra, rb, T, by omega, by go_num, Ze.out, Ye.out, HLAT.out, HLBT.out, HABT.out⟩
                      case measure => simp [intOf]; omega
          · have er : (x.s.region != (k : Int)) = true := by simpa using kr
            have HLAT : Hid ((othA ra x.s).length = 3) := Lib.hid (by rw [othA_len]; exact HLA.out)
            have HABT : Hid (regN (othA ra x.s) (k : Int) = regN rb (k : Int)) := Lib.hid ((regN_oth kr).trans HAB.out)
            have HLBT := HLB
            clear kr
            go_wp2_with (go_at_call 28; have hq := other_z x Z1.out (by omega) HPG.out; (with_reducible refine hq.mono ?_); clear hq; rintro e w5 ⟨rfl, TT, h1, h2⟩; have ZT := Lib.hid h1; have YT := Lib.hid ((Y1.out.other h2 (by decide)).more (Nat.le_succ i)); clear h1 h2)
            generalize othA ra x.s = ra2 at ZT HLAT HABT
            go_loopw [16] (fun q wr => ∃ (p : Nat), p ≤ 4 ∧ q = .int .i64 (p : Int) ∧ Dz w wr TT 0 D DA (i + 1) ra2 ∧ Dz w wr TT 1 E EA (i + 1) rb) (fun q _ => 4 - (intOf q).toNat)
            case atStart => exact ⟨0, Nat.zero_le _, rfl, ZT.out, YT.out⟩
            case round =>
              obtain ⟨p, hp0, rfl, hz, hy⟩ := hrel
              have HZ2 := Lib.hid hz
              have HY2 := Lib.hid hy
              clear hz hy
              by_cases hp : p < 4
              · have p1 : (p : Int) < 4 := by omega
                obtain ⟨q1, q2, _, _⟩ := rd_alike HABT.out (p : Int)
                obtain ⟨er, her⟩ : ∃ er, rdE ra2 (k : Int) (p : Int) = er := ⟨_, rfl⟩
                obtain ⟨lr, hlr⟩ : ∃ lr, rdL ra2 (k : Int) (p : Int) = lr := ⟨_, rfl⟩
                rw [her] at q1
                rw [hlr] at q2
                have HRA := Lib.hid (fun w1 (h1 : Dz w w1 TT 0 D DA (i + 1) ra2) => her ▸ hlr ▸ Read_z (k : Int) (p : Int) h1)
                have HRB := Lib.hid (fun w1 (h1 : Dz w w1 TT 1 E EA (i + 1) rb) => q1 ▸ q2 ▸ Read_z (k : Int) (p : Int) h1)
                clear her hlr q1 q2
                by_cases he : er = 0
                · subst he
                  go_wp2_with (first
                    | (go_at_call 21; (with_reducible refine (HRA.out _ HZ2.out).mono ?_); intro e wc hr; obtain ⟨h1, gx, rfl, h3, h4, h5⟩ := rd_ok hr; have Zc := Lib.hid (HZ2.out.below h1); have Yc := Lib.hid (HY2.out.below h1); have Xc : Hid (Bk wc TT gx 88 _) := Lib.hid ⟨h4, HZ2.out.lo.un h3⟩; have HL5 := Lib.hid h5; clear hr h1 h3 h4 h5)
                    | (go_at_call 21; (with_reducible refine (HRB.out _ Yc.out).mono ?_); intro e wd hr; obtain ⟨h1, gy, rfl, h3, h4, h5⟩ := rd_ok hr; have Zd := Lib.hid (Zc.out.below h1); have Yd := Lib.hid (Yc.out.below h1); have Xd := Lib.hid (Xc.out.below h1); have Vd : Hid (Bk wd TT gy 88 _) := Lib.hid ⟨h4, Yc.out.lo.un h3⟩; have sx := str_reads (n := 128) (c := 128) HL5.out.symm Xd.out.reads; have sy := str_reads (n := 128) (c := 128) HL5.out.symm Vd.out.reads; clear hr h1 h3 h4 h5))
                  go_roundw
                  case rel => exact ⟨p + 1, by omega, by go_num, Zd.out, Yd.out⟩
                  case measure => simp [intOf]; omega
                · have HE := Lib.hid he
                  clear he
                  go_wp2_with (first
                    | (go_at_call 21; (with_reducible refine (HRA.out _ HZ2.out).mono ?_); intro e wc hr; obtain ⟨h1, rfl⟩ := rd_no HE.out hr; have Zc := Lib.hid (HZ2.out.below h1); have Yc := Lib.hid (HY2.out.below h1); clear hr h1)
                    | (go_at_call 21; (with_reducible refine (HRB.out _ Yc.out).mono ?_); intro e wd hr; obtain ⟨h1, rfl⟩ := rd_no HE.out hr; have Zd := Lib.hid (Zc.out.below h1); have Yd := Lib.hid (Yc.out.below h1); have sx := str_reads (w := wd) (n := 0) (c := 0) (A := none) (l := []) rfl Reads.empty; clear hr h1))
                  go_roundw
                  case rel => exact ⟨p + 1, by omega, by go_num, Zd.out, Yd.out⟩
                  case measure => simp [intOf]; omega
              · obtain rfl : p = 4 := by omega
                obtain ⟨_, _, q3, q4⟩ := rd_alike HABT.out 0
                obtain ⟨ll, hll⟩ : ∃ ll, looL ra2 (k : Int) = ll := ⟨_, rfl⟩
                obtain ⟨dd, hdd⟩ : ∃ dd, downN ra2 (k : Int) = dd := ⟨_, rfl⟩
                have HLLA := Lib.hid (fun w1 (h1 : Dz w w1 TT 0 D DA (i + 1) ra2) => hll ▸ Loose_z (k : Int) h1 (by omega))
                have HLLB := Lib.hid (fun w1 (h1 : Dz w w1 TT 1 E EA (i + 1) rb) => (q3.symm.trans hll) ▸ Loose_z (k : Int) h1 (by omega))
                have HDDA := Lib.hid (fun w1 (h1 : Dz w w1 TT 0 D DA (i + 1) ra2) => hdd ▸ down_any (k : Int) h1.dk)
                have HDDB := Lib.hid (fun w1 (h1 : Dz w w1 TT 1 E EA (i + 1) rb) => (q4.symm.trans hdd) ▸ down_any (k : Int) h1.dk)
                have HLL : Hid (ll.length ≤ 1000000) := Lib.hid (by rw [← hll]; exact looL_len HZ2.out (by omega))
                clear q3 q4 hll hdd
                go_wp2_with (first
                  | (go_at_call 25; (with_reducible refine (HLLA.out _ HZ2.out).mono ?_); rintro e wc ⟨vl, rfl, h1, h2⟩; have RA := Lib.hid (Row.of_ownv h1); obtain ⟨lAc, lcc, rfl⟩ := own_slw h1; have Zc := Lib.hid (HZ2.out.below h2); have Yc := Lib.hid (HY2.out.below h2); clear h1 h2)
                  | (go_at_call 25; (with_reducible refine (HLLB.out _ Yc.out).mono ?_); rintro e wd ⟨vl, rfl, h1, h2⟩; have RB := Lib.hid (Row.of_ownv h1); obtain ⟨lAd, lcd, rfl⟩ := own_slw h1; have Zd := Lib.hid (Zc.out.below h2); have Yd := Lib.hid (Yc.out.below h2); have RA2 := Lib.hid ((RA.out _ _ rfl).keep_ h2); clear h1 h2)
                  | (go_at_call 24; (with_reducible refine (r3Ints_z ll _ _ _ _ _ wd rfl RA2.out (RB.out _ _ rfl) HLL.out).mono ?_); rintro e we ⟨rfl, h1⟩; have Ze := Lib.hid (Zd.out.below h1); have Ye := Lib.hid (Yd.out.below h1); clear h1)
                  | (go_at_call 23; (with_reducible refine (HDDA.out _ Ze.out).mono ?_); rintro e wf ⟨rfl, rfl⟩)
                  | (go_at_call 23; (with_reducible refine (HDDB.out _ Ye.out).mono ?_); rintro e wf ⟨rfl, rfl⟩))
                go_roundw
                case rel => exact ⟨i + 1, ra2, rb, TT, by omega, by go_num, Ze.out, Ye.out, HLAT.out, HLBT.out, HABT.out⟩
                case measure => simp [intOf]; omega
      · obtain rfl : i = n := by omega
        go_wp2
        go_ret
        exact ⟨rfl, HZ.out.bel⟩

end Go.Proofs.Ythbchloghbfnmaa
