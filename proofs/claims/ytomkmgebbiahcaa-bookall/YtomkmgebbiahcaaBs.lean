/-
  Two books that are the same are found so; the phases counted, by the program and by the reference. Conditions: the books lie in memory, and are short.
-/
import Derived.Test.YtomkmgebbiahcaaBb
namespace Go.Proofs.Ytomkmgebbiahcaa
open Go.RowKit

set_option maxRecDepth 20000 in
set_option maxHeartbeats 1000000 in
theorem same_ok (a b : Option Addr) (c1 c2 : Nat) (L : List En) (w : World) (h1 : EnR w a L) (h2 : EnR w b L) (hl : L.length ≤ 2000) :
    Calls Try.prog 9 #[.slice a L.length c1, .slice b L.length c2] w fun e w' => e = .returned (.bool true) ∧ Below w.heap.size w w' := by
  have H1 : Hd (EnR w a L) := ⟨h1⟩
  have H2 : Hd (EnR w b L) := ⟨h2⟩
  obtain ⟨n, hn⟩ : ∃ n, L.length = n := ⟨_, rfl⟩
  have HL : Hd (L.length = n) := ⟨hn⟩
  rw [hn] at hl ⊢
  clear h1 h2 hn
  go_enter Try.func9, Try.ntmps9
  go_wp2
  go_loopw [5] (fun i wr => ∃ k : Nat, k ≤ n ∧ i = .int .i64 k ∧ Below w.heap.size w wr) (fun i _ => n - (intOf i).toNat)
  case atStart => exact ⟨0, Nat.zero_le _, rfl, Below.refl _ _⟩
  case round =>
    obtain ⟨k, hk, rfl, p3⟩ := hrel
    by_cases hlt : k < n
    · obtain ⟨b1, o1, rfl, hb1, d0, d1, d2⟩ := (H1.out.carry p3).at (k := k) (by rw [HL.out]; exact hlt)
      obtain ⟨b2, o2, rfl, hb2, e0, e1, e2⟩ := (H2.out.carry p3).at (k := k) (by rw [HL.out]; exact hlt)
      clear hb1 hb2
      generalize ge L k = z at *
      obtain ⟨z0, z1, z2⟩ := z
      simp only at d0 d1 d2 e0 e1 e2
      have P : Hd (Below w.heap.size w wr) := ⟨p3⟩
      clear p3
      go_wp2
      go_quiet (fail)
      go_wp2
      go_roundw
      case rel => exact ⟨k + 1, by omega, by go_num, ⟨P.out.os, P.out.tape, P.out.output, P.out.size, P.out.block⟩⟩
      case measure => simp [intOf]; omega
    · obtain rfl : k = n := by omega
      go_wp2
      go_ret
      exact ⟨rfl, p3⟩

set_option maxRecDepth 20000 in
set_option maxHeartbeats 1000000 in
theorem rcount_ok (a : Option Addr) (c : Nat) (L : List En) (p : Int) (w : World) (h : EnR w a L) (hl : L.length ≤ 2000) :
    Calls Try.prog 15 #[.slice a L.length c, .int .i64 p] w fun e w' => e = .returned (.int .i64 (cnt L p L.length)) ∧ w' = w := by
  have H : Hd (EnR w a L) := ⟨h⟩
  have HC : Hd ((∀ k, 0 ≤ cnt L p k ∧ cnt L p k ≤ k) ∧ ∀ k, cnt L p (k + 1) = cnt L p k + (if (ge L k).ph = p then 1 else 0)) := ⟨fun k => ⟨cnt_lo L p k, cnt_hi L p k⟩, fun k => rfl⟩
  obtain ⟨n, hn⟩ : ∃ n, L.length = n := ⟨_, rfl⟩
  have HL : Hd (L.length = n) := ⟨hn⟩
  have H0 : Hd (cnt L p 0 = 0) := ⟨rfl⟩
  rw [hn] at hl ⊢
  clear h hn
  generalize hf : cnt L p = f at *
  clear hf
  go_enter Try.func15, Try.ntmps15
  go_wp2
  go_loopw [5, 6] (fun v i wr => wr = w ∧ ∃ k : Nat, k ≤ n ∧ v = .int .i64 (f k) ∧ i = .int .i64 k) (fun _ i _ => n - (intOf i).toNat)
  case atStart => exact ⟨rfl, 0, Nat.zero_le _, by rw [H0.out], rfl⟩
  case round =>
    obtain ⟨rfl, k, hk, rfl, rfl⟩ := hrel
    by_cases hlt : k < n
    · obtain ⟨b, off, rfl, -, d0, d1, d2⟩ := H.out.at (k := k) (by rw [HL.out]; exact hlt)
      obtain ⟨l1, l2⟩ := HC.out.1 k
      have E := HC.out.2 k
      generalize hy : f k = y at *
      by_cases e : (ge L k).ph = p
      · have E' : Hd (f (k + 1) = y + 1) := ⟨by rw [E, if_pos e]⟩
        have e' : ((ge L k).ph == p) = true := by simpa using e
        clear E e hy
        generalize (ge L k).ph = z at *
        go_wp2
        go_roundw
        case rel => exact ⟨trivial, k + 1, by omega, by rw [E'.out]; try go_num, by go_num⟩
        case measure => simp [intOf]; omega
      · have E' : Hd (f (k + 1) = y) := ⟨by rw [E, if_neg e]; omega⟩
        have e' : ((ge L k).ph == p) = false := by simpa using e
        clear E e hy
        generalize (ge L k).ph = z at *
        go_wp2
        go_roundw
        case rel => exact ⟨trivial, k + 1, by omega, by rw [E'.out], by go_num⟩
        case measure => simp [intOf]; omega
    · obtain rfl : k = n := by omega
      go_wp2
      go_ret
      exact ⟨rfl, rfl⟩

set_option maxRecDepth 20000 in
set_option maxHeartbeats 1000000 in
theorem count_ok (a : Option Addr) (c : Nat) (L : List En) (w : World) (h : EnR w a L) (hl : L.length ≤ 2000) :
    Calls Try.prog 14 #[.slice a L.length c] w fun e w' => e = .returned (.tuple #[.int .i64 (cnt L 1 L.length), .int .i64 (cnt L 2 L.length), .int .i64 (cnt L 3 L.length)]) ∧ Below w.heap.size w w' := by
  have H : Hd (EnR w a L) := ⟨h⟩
  have HC : Hd (∀ p k, (0 ≤ cnt L p k ∧ cnt L p k ≤ k) ∧ ((ge L k).ph = p → cnt L p (k + 1) = cnt L p k + 1) ∧ ((ge L k).ph ≠ p → cnt L p (k + 1) = cnt L p k)) := ⟨fun p k => ⟨⟨cnt_lo L p k, cnt_hi L p k⟩, fun e => by rw [cnt, if_pos e], fun e => by rw [cnt, if_neg e]; omega⟩⟩
  obtain ⟨n, hn⟩ : ∃ n, L.length = n := ⟨_, rfl⟩
  have HL : Hd (L.length = n) := ⟨hn⟩
  have H0 : Hd (cnt L 1 0 = 0 ∧ cnt L 2 0 = 0 ∧ cnt L 3 0 = 0) := ⟨rfl, rfl, rfl⟩
  rw [hn] at hl ⊢
  clear h hn
  generalize hf : cnt L = f at *
  clear hf
  go_enter Try.func14, Try.ntmps14
  go_wp2
  go_loopw [5, 6, 7, 12] (fun x y z i wr => Below w.heap.size w wr ∧ ∃ k : Nat, k ≤ n ∧ x = .int .i64 (f 1 k) ∧ y = .int .i64 (f 2 k) ∧ z = .int .i64 (f 3 k) ∧ i = .int .i64 k) (fun _ _ _ i _ => n - (intOf i).toNat)
  case atStart => exact ⟨Below.refl _ _, 0, Nat.zero_le _, by rw [H0.out.1], by rw [H0.out.2.1], by rw [H0.out.2.2], rfl⟩
  case round =>
    obtain ⟨p3, k, hk, rfl, rfl, rfl, rfl⟩ := hrel
    by_cases hlt : k < n
    · obtain ⟨b, off, rfl, -, d0, d1, d2⟩ := (H.out.carry p3).at (k := k) (by rw [HL.out]; exact hlt)
      obtain ⟨l1, y1, n1⟩ := HC.out 1 k
      obtain ⟨l2, y2, n2⟩ := HC.out 2 k
      obtain ⟨l3, y3, n3⟩ := HC.out 3 k
      have Y : Hd (_ ∧ _ ∧ _ ∧ _ ∧ _ ∧ _) := ⟨y1, n1, y2, n2, y3, n3⟩
      clear y1 y2 y3 n1 n2 n3
      have hsz := p3.size
      generalize f 1 k = u1 at *
      generalize f 2 k = u2 at *
      generalize f 3 k = u3 at *
      obtain ⟨w4, hw4⟩ : ∃ w4, w4 = wr.alloc (.cells (enA (ge L k)) 24) := ⟨_, rfl⟩
      have nq : Hd (Blk w4 wr.heap.size 24 (enA (ge L k))) := ⟨by rw [hw4]; exact Blk.new _ _ _⟩
      have bq : Hd (Below w.heap.size w w4) := ⟨by rw [hw4]; exact p3.alloc p3.size _⟩
      unfold enA at hw4
      clear p3
      generalize ge L k = z at *
      obtain ⟨z0, z1, z2⟩ := z
      simp only at d0 d1 d2 hw4 Y
      go_upto_region 5 with fail
      rw [← hw4]
      clear hw4 d0 d1 d2
      obtain ⟨⟨d0, d1, d2⟩, -⟩ := Blk.three (t := ⟨z0, z1, z2⟩) nq.out
      simp only at d0 d1 d2
      clear d0 d2
      by_cases e1 : z1 = 1
      · subst e1
        have F : Hd (_ ∧ _ ∧ _) := ⟨Y.out.1 rfl, Y.out.2.2.2.1 (by decide), Y.out.2.2.2.2.2 (by decide)⟩
        clear Y
        go_wp2
        go_roundw
        case rel => exact ⟨bq.out, k + 1, by omega, by rw [F.out.1]; try go_num, by rw [F.out.2.1], by rw [F.out.2.2], by go_num⟩
        case measure => simp [intOf]; omega
      · by_cases e2 : z1 = 2
        · subst e2
          have F : Hd (_ ∧ _ ∧ _) := ⟨Y.out.2.1 (by decide), Y.out.2.2.1 rfl, Y.out.2.2.2.2.2 (by decide)⟩
          clear Y
          go_wp2
          go_roundw
          case rel => exact ⟨bq.out, k + 1, by omega, by rw [F.out.1], by rw [F.out.2.1]; try go_num, by rw [F.out.2.2], by go_num⟩
          case measure => simp [intOf]; omega
        · by_cases e3 : z1 = 3
          · subst e3
            have F : Hd (_ ∧ _ ∧ _) := ⟨Y.out.2.1 (by decide), Y.out.2.2.2.1 (by decide), Y.out.2.2.2.2.1 rfl⟩
            clear Y
            go_wp2
            go_roundw
            case rel => exact ⟨bq.out, k + 1, by omega, by rw [F.out.1], by rw [F.out.2.1], by rw [F.out.2.2]; try go_num, by go_num⟩
            case measure => simp [intOf]; omega
          · have F : Hd (_ ∧ _ ∧ _) := ⟨Y.out.2.1 e1, Y.out.2.2.2.1 e2, Y.out.2.2.2.2.2 e3⟩
            have e1' : (z1 == 1) = false := by simpa using e1
            have e2' : (z1 == 2) = false := by simpa using e2
            have e3' : (z1 == 3) = false := by simpa using e3
            clear Y
            go_wp2
            go_roundw
            case rel => exact ⟨bq.out, k + 1, by omega, by rw [F.out.1], by rw [F.out.2.1], by rw [F.out.2.2], by go_num⟩
            case measure => simp [intOf]; omega
    · obtain rfl : k = n := by omega
      go_wp2
      go_ret3
      exact ⟨rfl, p3⟩
end Go.Proofs.Ytomkmgebbiahcaa
