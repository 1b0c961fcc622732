/-
  Who is next, by the program and by the reference. Conditions: the lanes lie in memory, and are few.
-/
import Derived.Test.YtemmkkcfjhmomabFw
namespace Go.Proofs.Ytemmkkcfjhmomab
open Go.RowKit

/-- The number that is told, the finish that is kept, and whether there is one. -/
def nI (b : Int) : Int := if b < 0 then 0 else b
def nL (F : List Ln) (g b : Int) : Int := if b < 0 then 0 else fN g (gl F b.toNat)
def nB (b : Int) : Bool := decide (0 ≤ b)
theorem nB_yes {b : Int} (h : ¬ b < 0) : nB b = true := decide_eq_true (by omega)
theorem nB_no {b : Int} (h : b < 0) : nB b = false := decide_eq_false (by omega)
theorem nL_yes {F : List Ln} {g b : Int} (h : ¬ b < 0) : nL F g b = fN g (gl F b.toNat) := if_neg h
theorem nxF_yes {F : List Ln} {g : Int} {k : Nat} (h : (gl F k).L ≠ [] ∧ (nxF F g k < 0 ∨ fN g (gl F k) < fN g (gl F (nxF F g k).toNat))) : nxF F g (k + 1) = k := if_pos h
theorem nxF_no {F : List Ln} {g : Int} {k : Nat} (h : ¬ ((gl F k).L ≠ [] ∧ (nxF F g k < 0 ∨ fN g (gl F k) < fN g (gl F (nxF F g k).toNat)))) : nxF F g (k + 1) = nxF F g k := if_neg h
theorem nI_nat (k : Nat) : nI (k : Int) = k := if_neg (by omega)
theorem nL_nat (F : List Ln) (g : Int) (k : Nat) : nL F g (k : Int) = fN g (gl F k) := by rw [nL_yes (by omega), Int.toNat_natCast]
theorem nB_nat (k : Nat) : nB (k : Int) = true := nB_yes (by omega)

set_option maxRecDepth 20000 in
set_option maxHeartbeats 1000000 in
theorem next_ok (r g nn o : Int) (a : Option Addr) (c : Nat) (F : List Ln) (w : World) (h : LsR w a c F) (hf : Few F) :
    Calls Try.prog 9 #[.agg #[.int .u64 r, .int .i64 g, .int .i64 nn, .int .i64 o, .slice a F.length c]] w fun e w' => e = .returned (.tuple #[.int .i64 (nI (nxt F g)), .bool (nB (nxt F g))]) ∧ Below w.heap.size w w' := by
  obtain ⟨w1, hw1⟩ : ∃ w1, w1 = w.alloc (.cells #[.int .u64 r, .int .i64 g, .int .i64 nn, .int .i64 o, .slice a F.length c] 25) := ⟨_, rfl⟩
  have B : Below w.heap.size w w1 := by rw [hw1]; exact alloc_below _ _
  have N1 : Blk w1 w.heap.size 25 (faA r g nn o (.slice a F.length c)) := by rw [hw1]; exact Blk.new _ _ _
  have HF : Hd (Few F) := ⟨hf⟩
  have hl := hf.len
  obtain ⟨n, hn⟩ : ∃ n, F.length = n := ⟨_, rfl⟩
  have HL : Hd (F.length = n) := ⟨hn⟩
  have H : Hd (LsR w1 a c F ∧ Below w.heap.size w w1 ∧ Blk w1 w.heap.size 25 (faA r g nn o (.slice a n c))) := ⟨h.carry B, B, by rw [← hn]; exact N1⟩
  rw [hn] at hl hw1
  clear B N1 h hf
  obtain ⟨⟨c0, c1, c2, c3, c4⟩, -⟩ := H.out.2.2.fair
  have HX : Hd (nxt F g = nxF F g n) := ⟨by unfold nxt; rw [hn]⟩
  rw [hn, HX.out]
  clear hn HX
  go_enter Try.func9, Try.ntmps9
  go_upto_region 1 with fail
  rw [← hw1]
  clear hw1
  obtain ⟨A, hA⟩ : ∃ A, A = w.heap.size := ⟨_, rfl⟩
  have HA : Hd (A = w.heap.size) := ⟨hA⟩
  rw [← hA] at H c0 c1 c2 c3 c4 ⊢
  clear hA
  go_wp2
  clear c0 c1 c2 c3 c4
  go_loopw [4, 5, 6, 14] (fun v4 v5 v6 i wr => ∃ k : Nat, k ≤ n ∧ v4 = .int .i64 (nI (nxF F g k)) ∧ v5 = .int .u64 (nL F g (nxF F g k)) ∧ v6 = .bool (nB (nxF F g k)) ∧ i = .int .i64 k ∧ Below w1.heap.size w1 wr) (fun _ _ _ i _ => n - (intOf i).toNat)
  case atStart => exact ⟨0, Nat.zero_le _, rfl, rfl, rfl, rfl, Below.refl _ _⟩
  case round =>
    obtain ⟨k, hk, rfl, rfl, rfl, rfl, p3⟩ := hrel
    by_cases hlt : k < n
    · have NA := H.out.2.2.kept (Kept.of_below p3 (fun _ => False)) id
      obtain ⟨b1, o1, a1, c1, rfl, hb1, d0, d1, s1⟩ := (H.out.1.carry p3).at (k := k) (by rw [HL.out]; exact hlt)
      have HK := HF.out.at k
      obtain ⟨wa, hwa⟩ : ∃ wa, wa = wr.alloc (.cells #[.int .u64 (gl F k).s, .slice a1 (gl F k).L.length c1] 38) := ⟨_, rfl⟩
      have BA : Below wr.heap.size wr wa := by rw [hwa]; exact alloc_below _ _
      have FN := finish_ok (gl F k).s a1 c1 (gl F k).L g wa HK.1 (s1.carry BA).2.2 (by omega)
      rw [show finI (gl F k).s (gl F k).L g = fN g (gl F k) from rfl] at FN
      obtain ⟨⟨x0, x1, x2, x3, x4⟩, -⟩ := (NA.kept (Kept.of_below BA (fun _ => False)) id).fair
      have P : Hd (Below w1.heap.size w1 wr ∧ Below wr.heap.size wr wa) := ⟨p3, BA⟩
      have H0 : Hd ((gl F k).L = [] → nxF F g (k + 1) = nxF F g k) := ⟨fun e => nxF_no (fun h => h.1 e)⟩
      have H1 : Hd ((gl F k).L ≠ [] → nxF F g k < 0 → nxF F g (k + 1) = k) := ⟨fun e e2 => nxF_yes ⟨e, .inl e2⟩⟩
      have H2 : Hd ((gl F k).L ≠ [] → ¬ nxF F g k < 0 → fN g (gl F k) < nL F g (nxF F g k) → nxF F g (k + 1) = k) := ⟨fun e e2 e3 => nxF_yes ⟨e, .inr (by rw [nL_yes e2] at e3; exact e3)⟩⟩
      have H3 : Hd (¬ nxF F g k < 0 → ¬ fN g (gl F k) < nL F g (nxF F g k) → nxF F g (k + 1) = nxF F g k) := ⟨fun e2 e3 => nxF_no (fun h => by rw [nL_yes e2] at e3; rcases h.2 with h | h; exact e2 h; exact e3 h)⟩
      have HNL : Hd (nL F g (k : Int) = fN g (gl F k)) := ⟨nL_nat F g k⟩
      have hfw := fN_word (g := g) HK.1
      clear p3 BA NA s1 hb1
      obtain ⟨xl, hxl⟩ : ∃ xl, xl = nL F g (nxF F g k) := ⟨_, rfl⟩
      have HXL : Hd (xl = nL F g (nxF F g k)) := ⟨hxl⟩
      rw [← hxl] at H2 H3 ⊢
      clear hxl
      by_cases e1 : (gl F k).L = []
      · have HX : Hd (nxF F g (k + 1) = nxF F g k) := ⟨H0.out e1⟩
        rw [e1] at d1 FN hwa
        rw [hasI_nil] at FN
        simp only [List.length_nil] at d1 FN hwa
        clear H0 H1 H2 H3 e1
        generalize fN g (gl F k) = xk at *
        generalize (gl F k).s = z at *
        subst hwa
        go_wp2_with (go_at_call 19; refine FN.mono ?_; rintro e w4 ⟨rfl, b4⟩; clear FN)
        go_roundw
        case rel => exact ⟨k + 1, by omega, by rw [HX.out], by rw [HX.out, HXL.out], by rw [HX.out], by go_num, P.out.1.trans ((P.out.2.trans (b4.mono P.out.2.size)).mono P.out.1.size)⟩
        case measure => simp [intOf]; omega
      · rw [hasI_some e1] at FN
        by_cases e2 : nxF F g k < 0
        · have HX : Hd (nxF F g (k + 1) = k) := ⟨H1.out e1 e2⟩
          rw [nB_no e2]
          have HI : Hd (nI (nxF F g k) = 0) := ⟨if_pos e2⟩
          clear H0 H1 H2 H3 e1 e2
          generalize fN g (gl F k) = xk at *
          generalize (gl F k).L.length = m at *
          generalize (gl F k).s = z at *
          subst hwa
          go_wp2_with (go_at_call 19; refine FN.mono ?_; rintro e w4 ⟨rfl, b4⟩; clear FN)
          go_roundw
          case rel => exact ⟨k + 1, by omega, by rw [HX.out, nI_nat], by rw [HX.out, HNL.out], by rw [HX.out, nB_nat], by go_num, P.out.1.trans ((P.out.2.trans (b4.mono P.out.2.size)).mono P.out.1.size)⟩
          case measure => simp [intOf]; omega
        · rw [nB_yes e2]
          by_cases e3 : fN g (gl F k) < xl
          · have HX : Hd (nxF F g (k + 1) = k) := ⟨H2.out e1 e2 e3⟩
            clear H0 H1 H2 H3 e1 e2
            generalize fN g (gl F k) = xk at *
            generalize (gl F k).L.length = m at *
            generalize (gl F k).s = z at *
            subst hwa
            go_wp2_with (go_at_call 19; refine FN.mono ?_; rintro e w4 ⟨rfl, b4⟩; clear FN)
            go_roundw
            case rel => exact ⟨k + 1, by omega, by rw [HX.out, nI_nat], by rw [HX.out, HNL.out], by rw [HX.out, nB_nat], by go_num, P.out.1.trans ((P.out.2.trans (b4.mono P.out.2.size)).mono P.out.1.size)⟩
            case measure => simp [intOf]; omega
          · have HX : Hd (nxF F g (k + 1) = nxF F g k ∧ nB (nxF F g k) = true ∧ xl = nL F g (nxF F g k)) := ⟨H3.out e2 e3, nB_yes e2, HXL.out⟩
            clear H0 H1 H2 H3 e1 e2
            generalize fN g (gl F k) = xk at *
            generalize (gl F k).L.length = m at *
            generalize (gl F k).s = z at *
            subst hwa
            go_wp2_with (go_at_call 19; refine FN.mono ?_; rintro e w4 ⟨rfl, b4⟩; clear FN)
            go_roundw
            case rel => exact ⟨k + 1, by omega, by rw [HX.out.1], by rw [HX.out.1, HX.out.2.2], by rw [HX.out.1, HX.out.2.1], by go_num, P.out.1.trans ((P.out.2.trans (b4.mono P.out.2.size)).mono P.out.1.size)⟩
            case measure => simp [intOf]; omega
    · obtain rfl : k = n := by omega
      go_wp2
      go_ret2
      exact ⟨rfl, by rw [← HA.out]; exact H.out.2.1.trans (p3.mono (by rw [HA.out]; exact H.out.2.1.size))⟩

theorem nI_neg {b : Int} (h : b < 0) : nI b = 0 := if_pos h

end Go.Proofs.Ytemmkkcfjhmomab
