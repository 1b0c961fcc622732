/-
  The lane that is chosen is one of the hand that is open, and none of these has fewer seats waiting: the walk. Conditions: what comes in lies in memory.
-/
import Derived.Test.YtemmkkcfjhmomaaAw
import Derived.Test.YtemmkkcfjhmomaaSl
namespace Go.Proofs.Ytemmkkcfjhmomaa
open Go.RowKit

set_option maxRecDepth 20000 in
set_option maxHeartbeats 4000000 in
theorem chooses_law (r g nn o : Int) (a : Option Addr) (c : Nat) (F : List Ln) (ah : Option Addr) (nh ch : Nat) (H0 : Nat → Int) (w : World) (h : LsR w a c F) (hw : ∀ l ∈ F, Word l.s) (hc : F.length ≤ 9223372036854775807) (ht : ∀ k, k < F.length → (gl F k).L.length ≤ 9223372036854775807) (hh : HnR w ah nh H0) (hnh : nh ≤ 9223372036854775807) :
    Calls Try.prog 8 #[.agg #[.int .u64 r, .int .i64 g, .int .i64 nn, .int .i64 o, .slice a F.length c], .slice ah nh ch] w fun e w' => e = .returned (.bool true) ∧ Below w.heap.size w w' := by
  obtain ⟨w1, hw1⟩ : ∃ w1, w1 = w.alloc (.cells #[.int .u64 r, .int .i64 g, .int .i64 nn, .int .i64 o, .slice a F.length c] 25) := ⟨_, rfl⟩
  have B : Below w.heap.size w w1 := by rw [hw1]; exact alloc_below _ _
  have N1 : Blk w1 w.heap.size 25 (faA r g nn o (.slice a F.length c)) := by rw [hw1]; exact Blk.new _ _ _
  have HW : Hd (∀ l ∈ F, Word l.s) := ⟨hw⟩
  have HSM : Hd (∀ W, LsR W a c F → Calls Try.prog 10 #[.agg #[.int .u64 r, .int .i64 g, .int .i64 nn, .int .i64 o, .slice a F.length c]] W fun e w' => AnsB F e ∧ Below W.heap.size W w') := ⟨fun W q => smallF_ok r g nn o a c F W q hc ht⟩
  obtain ⟨n, hn⟩ : ∃ n, F.length = n := ⟨_, rfl⟩
  have HL : Hd (F.length = n) := ⟨hn⟩
  have H : Hd (LsR w1 a c F ∧ Below w.heap.size w w1 ∧ Blk w1 w.heap.size 25 (faA r g nn o (.slice a n c)) ∧ HnR w1 ah nh H0) := ⟨h.carry B, B, by rw [← hn]; exact N1, hh.carry B⟩
  rw [hn] at hw1 HSM ⊢
  clear B N1 h hn ht hw hc hh
  go_enter Try.func8, Try.ntmps8
  go_upto_region 1 with fail
  rw [← hw1]
  clear hw1
  obtain ⟨A, hA⟩ : ∃ A, A = w.heap.size := ⟨_, rfl⟩
  have HA : Hd (A = w.heap.size) := ⟨hA⟩
  rw [← hA] at H ⊢
  clear hA
  go_wp2_with fail
  go_at_call 9
  refine (awake_ok w1).mono ?_
  rintro e w2 ⟨rfl, b2⟩
  have H2 : Hd (LsR w2 a c F ∧ Below A w w2 ∧ Blk w2 A 25 (faA r g nn o (.slice a n c)) ∧ HnR w2 ah nh H0) := ⟨H.out.1.carry b2, H.out.2.1.trans (b2.mono (by have := H.out.2.2.1.lt; omega)), H.out.2.2.1.kept (Kept.of_below b2 (fun _ => False)) id, H.out.2.2.2.carry b2⟩
  clear b2 H
  obtain ⟨⟨x0, x1, x2, x3, x4⟩, -⟩ := H2.out.2.2.1.fair
  have SM := HSM.out w2 H2.out.1
  go_wp2_with fail
  go_at_call 10
  refine SM.mono ?_
  rintro e w3 ⟨⟨b, rfl, hb⟩, b3⟩
  clear SM x0 x1 x2 x3 x4 HSM
  have HB : Hd (IsF F b) := ⟨hb⟩
  clear hb
  have H3 : Hd (LsR w3 a c F ∧ Below A w w3 ∧ Blk w3 A 25 (faA r g nn o (.slice a n c)) ∧ HnR w3 ah nh H0) := ⟨H2.out.1.carry b3, H2.out.2.1.trans (b3.mono (by have := H2.out.2.2.1.lt; omega)), H2.out.2.2.1.kept (Kept.of_below b3 (fun _ => False)) id, H2.out.2.2.2.carry b3⟩
  clear b3 H2
  cases b with
  | false =>
    go_wp2_with fail
    go_ret
    exact ⟨rfl, by rw [← HA.out]; exact H3.out.2.1⟩
  | true =>
    have HF : Hd (Few F) := ⟨⟨by have := (HB.out.yes rfl).1; omega, fun l hl => by
      obtain ⟨k, hk, e⟩ := List.mem_iff_getElem?.1 hl |>.elim fun k e => (⟨k, (List.getElem?_eq_some_iff.1 e).1, e⟩ : ∃ k, ∃ _ : k < F.length, F[k]? = some l)
      have e2 := gl_get hk
      rw [e] at e2
      injection e2 with e2
      have := (HB.out.yes rfl).2 k hk
      rw [← e2] at this
      exact ⟨HW.out l hl, by omega⟩⟩⟩
    by_cases hbig : nh ≤ 100
    · have hbig' : ¬ (100 : Int) < (nh : Int) := by omega
      obtain ⟨⟨x0, x1, x2, x3, x4⟩, -⟩ := H3.out.2.2.1.fair
      have CHO := choose_ok r g nn o a c F ah nh ch H0 w3 H3.out.1 HF.out H3.out.2.2.2 (by omega)
      rw [HL.out] at CHO
      go_wp2_with fail
      go_at_call 21
      refine CHO.mono ?_
      rintro e w4 ⟨rfl, b4⟩
      clear CHO x0 x1 x2 x3 x4
      have H4 : Hd (LsR w4 a c F ∧ Below A w w4 ∧ Blk w4 A 25 (faA r g nn o (.slice a n c)) ∧ HnR w4 ah nh H0) := ⟨H3.out.1.carry b4, H3.out.2.1.trans (b4.mono (by have := H3.out.2.2.1.lt; omega)), H3.out.2.2.1.kept (Kept.of_below b4 (fun _ => False)) id, H3.out.2.2.2.carry b4⟩
      have IC := chF_is F o H0 nh
      clear b4 H3
      generalize chF F o H0 nh = k at *
      have HV : Hd (∀ j, Vld F o (H0 j) ↔ 0 ≤ H0 j ∧ H0 j < o ∧ H0 j < (n : Int)) := ⟨fun j => by unfold Vld; rw [HL.out]⟩
      -- whether the chosen one has been met
      obtain ⟨ps, HPS⟩ : ∃ ps : Nat → Bool, Hd (ps 0 = false ∧ ps nh = decide (0 ≤ k) ∧ (∀ j, j < nh → ¬ Vld F o (H0 j) → ps (j + 1) = ps j) ∧ (∀ j, j < nh → Vld F o (H0 j) → 0 ≤ k ∧ Vld F o k ∧ sW (gl F k.toNat) ≤ sW (gl F (H0 j).toNat) ∧ (H0 j = k → ps (j + 1) = true) ∧ (H0 j ≠ k → ps (j + 1) = ps j) ∧ (H0 j ≠ k → ps j = false → sW (gl F k.toNat) < sW (gl F (H0 j).toNat)))) := by
        rcases IC with ⟨rfl, h0⟩ | ⟨p, -, p2, rfl, p3, p4⟩
        · exact ⟨fun _ => false, ⟨rfl, rfl, fun _ _ _ => rfl, fun j hj hv => absurd hv (h0 j (Nat.zero_le _) hj)⟩⟩
        · refine ⟨fun j => decide (p < j), ⟨rfl, ?_, fun j hj hv => ?_, fun j hj hv => ⟨p3.1, p3, (p4 j (Nat.zero_le _) hj hv).1, fun e => ?_, fun e => ?_, fun e e2 => ?_⟩⟩⟩
          · show decide (p < nh) = decide (0 ≤ H0 p)
            rw [decide_eq_true p2, decide_eq_true p3.1]
          · have : p ≠ j := fun e => hv (e ▸ p3)
            show decide (p < j + 1) = decide (p < j)
            exact decide_eq_decide.2 (by omega)
          · have hj2 : ¬ j < p := fun c => by
              have := (p4 j (Nat.zero_le _) hj hv).2 c
              rw [e] at this
              omega
            exact decide_eq_true (by omega)
          · have : p ≠ j := fun e2 => e (by rw [e2])
            show decide (p < j + 1) = decide (p < j)
            exact decide_eq_decide.2 (by omega)
          · have e3 : ¬ p < j := of_decide_eq_false e2
            have : p ≠ j := fun e2 => e (by rw [e2])
            exact (p4 j (Nat.zero_le _) hj hv).2 (by omega)
      clear IC
      go_upto_region 8 with fail
      go_loopw [6, 7] (fun v6 i wr => ∃ j : Nat, j ≤ nh ∧ v6 = .bool (ps j) ∧ i = .int .i64 j ∧ Below w4.heap.size w4 wr) (fun _ i _ => nh - (intOf i).toNat)
      case atStart => exact ⟨0, Nat.zero_le _, by rw [HPS.out.1], rfl, Below.refl _ _⟩
      case round =>
        obtain ⟨j, hj, rfl, rfl, p3⟩ := hrel
        have P : Hd (Below w4.heap.size w4 wr) := ⟨p3⟩
        have H5 : Hd (LsR wr a c F ∧ Blk wr A 25 (faA r g nn o (.slice a n c)) ∧ HnR wr ah nh H0) := ⟨H4.out.1.carry p3, H4.out.2.2.1.kept (Kept.of_below p3 (fun _ => False)) id, H4.out.2.2.2.carry p3⟩
        clear p3
        by_cases hlt : j < nh
        · obtain ⟨bh, oh, rfl, hbh, hch⟩ := H5.out.2.2 (by omega)
          have hck := hch j hlt
          obtain ⟨⟨x0, x1, x2, x3, x4⟩, -⟩ := H5.out.2.1.fair
          obtain ⟨p1, p2⟩ := HPS.out.2.2
          have q1 : Hd (¬ Vld F o (H0 j) → ps (j + 1) = ps j) := ⟨p1 j hlt⟩
          have q2 : Hd (Vld F o (H0 j) → 0 ≤ k ∧ Vld F o k ∧ sW (gl F k.toNat) ≤ sW (gl F (H0 j).toNat) ∧ (H0 j = k → ps (j + 1) = true) ∧ (H0 j ≠ k → ps (j + 1) = ps j) ∧ (H0 j ≠ k → ps j = false → sW (gl F k.toNat) < sW (gl F (H0 j).toNat))) := ⟨p2 j hlt⟩
          have hv := HV.out j
          have HVJ : Hd (Vld F o (H0 j) ↔ 0 ≤ H0 j ∧ H0 j < o ∧ H0 j < (n : Int)) := ⟨hv⟩
          obtain ⟨hj0, ehj⟩ : ∃ hj0, hj0 = H0 j := ⟨_, rfl⟩
          rw [← ehj] at hck q1 q2 HVJ
          clear p1 p2 hv ehj hch hbh
          by_cases e1 : 0 ≤ hj0
          · by_cases e2 : hj0 < o
            · by_cases e3 : hj0 < (n : Int)
              · have hvv := HVJ.out.2 ⟨e1, e2, e3⟩
                obtain ⟨k0, kv, s1, s2, s3, s4⟩ := q2.out hvv
                have kn : k < (n : Int) := by have := kv.2.2; rw [HL.out] at this; exact this
                obtain ⟨p, rfl⟩ : ∃ p : Nat, hj0 = p := ⟨hj0.toNat, by omega⟩
                obtain ⟨u, rfl⟩ : ∃ u : Nat, k = u := ⟨k.toNat, by omega⟩
                rw [Int.toNat_natCast, Int.toNat_natCast] at s1 s4
                have hpn : p < n := by omega
                have hun : u < n := by omega
                obtain ⟨b1, o1, a1, c1, rfl, hb1, d0, d1, r1⟩ := H5.out.1.at (k := p) (by rw [HL.out]; exact hpn)
                obtain ⟨b2, o2, a2, c2, e9, hb2, f0, f1, r2⟩ := H5.out.1.at (k := u) (by rw [HL.out]; exact hun)
                obtain ⟨rfl, rfl⟩ : b1 = b2 ∧ o1 = o2 := by injection e9 with e9; injection e9 with y1 y2; exact ⟨y1, y2⟩
                have BD : Hd (Below wr.heap.size wr wr.drew) := ⟨(Below.refl _ _).drew⟩
                have X4 : Hd (∀ Y, Below wr.drew.heap.size wr.drew Y → Y.cell? ⟨A, 4, none⟩ = some (.slice (some ⟨b1, o1, none⟩) n c)) := ⟨fun Y q => (H5.out.2.1.kept (Kept.of_below (BD.out.trans q) (fun _ => False)) id).cellv 4 rfl⟩
                have XD : Hd (∀ Y, Below wr.drew.heap.size wr.drew Y → Y.cell? ⟨b1, o1 + p * 2, none⟩ = some (.int .u64 (gl F p).s) ∧ Y.cell? ⟨b1, o1 + p * 2 + 1, none⟩ = some (.slice a1 (gl F p).L.length c1)) := ⟨fun Y q => by
                  have K : Kept (fun _ => False) wr Y := Kept.of_below (BD.out.trans q) _
                  exact ⟨(World.cell?_of_block (K.block b1 hb1 id)).trans d0, (World.cell?_of_block (K.block b1 hb1 id)).trans d1⟩⟩
                have XE : Hd (∀ Y, Below wr.drew.heap.size wr.drew Y → Y.cell? ⟨b1, o1 + u * 2, none⟩ = some (.int .u64 (gl F u).s) ∧ Y.cell? ⟨b1, o1 + u * 2 + 1, none⟩ = some (.slice a2 (gl F u).L.length c2)) := ⟨fun Y q => by
                  have K : Kept (fun _ => False) wr Y := Kept.of_below (BD.out.trans q) _
                  exact ⟨(World.cell?_of_block (K.block b1 hb1 id)).trans f0, (World.cell?_of_block (K.block b1 hb1 id)).trans f1⟩⟩
                have CD : Hd (∀ Y, Below wr.drew.heap.size wr.drew Y → Calls Try.prog 36 #[.agg #[.int .u64 (gl F p).s, .slice a1 (gl F p).L.length c1]] Y fun e w' => e = .returned (.int .i64 (sW (gl F p))) ∧ Below Y.heap.size Y w') := ⟨fun Y q => seats_ok (gl F p).s a1 c1 (gl F p).L Y (r1.carry (BD.out.trans q)).2.2 (by have := (HF.out.at p).2; omega)⟩
                have CE : Hd (∀ Y, Below wr.drew.heap.size wr.drew Y → Calls Try.prog 36 #[.agg #[.int .u64 (gl F u).s, .slice a2 (gl F u).L.length c2]] Y fun e w' => e = .returned (.int .i64 (sW (gl F u))) ∧ Below Y.heap.size Y w') := ⟨fun Y q => seats_ok (gl F u).s a2 c2 (gl F u).L Y (r2.carry (BD.out.trans q)).2.2 (by have := (HF.out.at u).2; omega)⟩
                have S2 : Hd _ := ⟨s2⟩
                have S3 : Hd _ := ⟨s3⟩
                have S4 : Hd _ := ⟨s4⟩
                clear q1 q2 HVJ hvv kv d0 d1 f0 f1 r1 r2 hb1 hb2 e9 s2 s3 s4 H5
                generalize sW (gl F p) = xs at *
                generalize sW (gl F u) = xu at *
                generalize (gl F p).L.length = m at *
                generalize (gl F p).s = z at *
                generalize (gl F u).L.length = m2 at *
                generalize (gl F u).s = z2 at *
                go_upto_region 14 with fail
                clear x0 x1 x2 x3 x4
                refine AnyG.start (T := fun Y => Below wr.drew.heap.size wr.drew Y) (U := fun _ => True) (j0 := 100) (by kernel_rfl) ?_
                generalize wr.drew = w5 at *
                have R : Below w5.heap.size w5 w5 := Below.refl _ _
                refine .tq 0 58 R ?_; simp only [oqA, oqB, oqC]
                refine .tq 1 59 R ?_ (hy := fun w hSw => by have s := X4.out w hSw; go_simp; rfl); simp only [oqA, oqB, oqC]
                refine .tq 2 60 R ?_; simp only [oqA, oqB, oqC]
                refine .tq 3 61 R ?_; simp only [oqA, oqB, oqC]
                refine .tq 4 62 R ?_ (hy := fun w hSw => by have s := XD.out w hSw; go_simp; rfl); simp only [oqA, oqB, oqC]
                refine .tq 6 64 R ?_; simp only [oqA, oqB, oqC]
                refine .tq 7 65 R ?_ (hy := fun w hSw => by have s := X4.out w hSw; go_simp; rfl); simp only [oqA, oqB, oqC]
                refine .tq 8 66 R ?_; simp only [oqA, oqB, oqC]
                refine .tq 9 67 R ?_; simp only [oqA, oqB, oqC]
                refine .tq 10 68 R ?_ (hy := fun w hSw => by have s := XE.out w hSw; go_simp; rfl); simp only [oqA, oqB, oqC]
                have SD := CD.out w5 R
                refine AnyG.ready (rs := [5]) (by kernel_rfl) (by simp) ?_
                refine AllG.cons rfl (fun K hK => ?_) AllG.nil
                go_simp
                refine SD.mono ?_
                rintro e w6 ⟨rfl, b6⟩
                refine hK.out _ _ ⟨b6, fun _ => trivial⟩ ?_
                clear hK K SD
                have SE := CE.out w6 b6
                refine AnyG.ready (rs := [11]) (by kernel_rfl) (by simp) ?_
                refine AllG.cons rfl (fun K hK => ?_) AllG.nil
                go_simp
                refine SE.mono ?_
                rintro e w7 ⟨rfl, b7⟩
                have b57 := b6.trans (b7.mono b6.size)
                refine hK.out _ _ ⟨b57, fun _ => trivial⟩ ?_
                clear hK K SE
                refine .tq 12 9 b57 ?_; simp only [oqA, oqB, oqC]
                refine .tq 13 10 b57 ?_; simp only [oqA, oqB, oqC]
                refine AnyG.done (by kernel_rfl) ?_ _
                have R7 : Hd (Below w4.heap.size w4 w7) := ⟨P.out.trans ((BD.out.trans (b57.mono BD.out.size)).mono P.out.size)⟩
                have g1 : ¬ xs < xu := by omega
                clear R b6 b7 b57 X4 XD XE CD CE BD
                by_cases eh : p = u
                · subst eh
                  have HX : Hd (ps (j + 1) = true) := ⟨S2.out rfl⟩
                  by_cases en : xs = xu
                  · subst en
                    cases hps : ps j
                    · skip
                      go_wp2
                      go_roundw
                      case rel => exact ⟨j + 1, by omega, by rw [HX.out], by go_num, R7.out⟩
                      case measure => simp [intOf]; omega
                    · skip
                      go_wp2
                      go_roundw
                      case rel => exact ⟨j + 1, by omega, by rw [HX.out], by go_num, R7.out⟩
                      case measure => simp [intOf]; omega
                  · have en' : (xs == xu) = false := by simpa using en
                    cases hps : ps j
                    · skip
                      go_wp2
                      go_roundw
                      case rel => exact ⟨j + 1, by omega, by rw [HX.out], by go_num, R7.out⟩
                      case measure => simp [intOf]; omega
                    · skip
                      go_wp2
                      go_roundw
                      case rel => exact ⟨j + 1, by omega, by rw [HX.out], by go_num, R7.out⟩
                      case measure => simp [intOf]; omega
                · have eh' : ((p : Int) == (u : Int)) = false := by simp; omega
                  have eh2 : ((p : Int) != (u : Int)) = true := by simp; omega
                  have HX : Hd (ps (j + 1) = ps j) := ⟨S3.out (by omega)⟩
                  cases hps : ps j
                  · have hst := S4.out (by omega) hps
                    have en' : (xs == xu) = false := by simp; omega
                    rw [hps] at HX
                    go_wp2
                    go_roundw
                    case rel => exact ⟨j + 1, by omega, by rw [HX.out], by go_num, R7.out⟩
                    case measure => simp [intOf]; omega
                  · by_cases en : xs = xu
                    · subst en
                      rw [hps] at HX
                      go_wp2
                      go_roundw
                      case rel => exact ⟨j + 1, by omega, by rw [HX.out], by go_num, R7.out⟩
                      case measure => simp [intOf]; omega
                    · have en' : (xs == xu) = false := by simpa using en
                      rw [hps] at HX
                      go_wp2
                      go_roundw
                      case rel => exact ⟨j + 1, by omega, by rw [HX.out], by go_num, R7.out⟩
                      case measure => simp [intOf]; omega
              · have HX : Hd (ps (j + 1) = ps j) := ⟨q1.out (fun h => e3 (HVJ.out.1 h).2.2)⟩
                clear q1 q2 HVJ H5
                go_wp2
                go_roundw
                case rel => exact ⟨j + 1, by omega, by rw [HX.out], by go_num, P.out⟩
                case measure => simp [intOf]; omega
            · have HX : Hd (ps (j + 1) = ps j) := ⟨q1.out (fun h => e2 (HVJ.out.1 h).2.1)⟩
              clear q1 q2 HVJ H5
              go_wp2
              go_roundw
              case rel => exact ⟨j + 1, by omega, by rw [HX.out], by go_num, P.out⟩
              case measure => simp [intOf]; omega
          · have HX : Hd (ps (j + 1) = ps j) := ⟨q1.out (fun h => e1 (HVJ.out.1 h).1)⟩
            clear q1 q2 HVJ H5
            go_wp2
            go_roundw
            case rel => exact ⟨j + 1, by omega, by rw [HX.out], by go_num, P.out⟩
            case measure => simp [intOf]; omega
        · obtain rfl : j = nh := by omega
          rw [HPS.out.2.1]
          by_cases k0 : 0 ≤ k
          · rw [decide_eq_true k0]
            go_wp2
            go_ret
            exact ⟨rfl, by rw [← HA.out]; exact H4.out.2.1.trans (P.out.mono (by have := H4.out.2.2.1.lt; omega))⟩
          · rw [decide_eq_false k0]
            go_wp2
            go_ret
            exact ⟨rfl, by rw [← HA.out]; exact H4.out.2.1.trans (P.out.mono (by have := H4.out.2.2.1.lt; omega))⟩
    · have hbig' : (100 : Int) < (nh : Int) := by omega
      go_wp2_with fail
      go_ret
      exact ⟨rfl, by rw [← HA.out]; exact H3.out.2.1⟩
end Go.Proofs.Ytemmkkcfjhmomaa
