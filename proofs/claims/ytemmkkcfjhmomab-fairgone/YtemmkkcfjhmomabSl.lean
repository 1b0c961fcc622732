/-
  The statements' look at lanes that aren't too many. Conditions: the lanes lie in memory.
-/
import Derived.Test.YtemmkkcfjhmomabFm
namespace Go.Proofs.Ytemmkkcfjhmomab
open Go.RowKit

/-- What a yes says. -/
structure IsF (F : List Ln) (b : Bool) : Prop where
  yes : b = true → F.length ≤ 100 ∧ ∀ k, k < F.length → (gl F k).L.length ≤ 100
structure AnsB (F : List Ln) (e : Ending) : Prop where
  ex : ∃ b : Bool, e = .returned (.bool b) ∧ IsF F b

set_option maxRecDepth 20000 in
set_option maxHeartbeats 1000000 in
theorem smallF_ok (r g nn o : Int) (a : Option Addr) (c : Nat) (F : List Ln) (w : World) (h : LsR w a c F) (hc : F.length ≤ 9223372036854775807) (ht : ∀ k, k < F.length → (gl F k).L.length ≤ 9223372036854775807) :
    Calls Try.prog 5 #[.agg #[.int .u64 r, .int .i64 g, .int .i64 nn, .int .i64 o, .slice a F.length c]] w fun e w' => AnsB F e ∧ Below w.heap.size w w' := by
  obtain ⟨w1, hw1⟩ : ∃ w1, w1 = w.alloc (.cells #[.int .u64 r, .int .i64 g, .int .i64 nn, .int .i64 o, .slice a F.length c] 25) := ⟨_, rfl⟩
  have B : Below w.heap.size w w1 := by rw [hw1]; exact alloc_below _ _
  have N1 : Blk w1 w.heap.size 25 (faA r g nn o (.slice a F.length c)) := by rw [hw1]; exact Blk.new _ _ _
  obtain ⟨n, hn⟩ : ∃ n, F.length = n := ⟨_, rfl⟩
  have HL : Hd (F.length = n) := ⟨hn⟩
  have H : Hd (LsR w1 a c F ∧ Below w.heap.size w w1 ∧ Blk w1 w.heap.size 25 (faA r g nn o (.slice a n c))) := ⟨h.carry B, B, by rw [← hn]; exact N1⟩
  have HT : Hd (∀ k, k < n → (gl F k).L.length ≤ 9223372036854775807) := ⟨fun k hk => ht k (by omega)⟩
  rw [hn] at hw1 hc ⊢
  clear B N1 h hn ht
  obtain ⟨⟨c0, c1, c2, c3, c4⟩, -⟩ := H.out.2.2.fair
  go_enter Try.func5, Try.ntmps5
  go_upto_region 1 with fail
  rw [← hw1]
  clear hw1
  obtain ⟨A, hA⟩ : ∃ A, A = w.heap.size := ⟨_, rfl⟩
  have HA : Hd (A = w.heap.size) := ⟨hA⟩
  rw [← hA] at H c0 c1 c2 c3 c4 ⊢
  clear hA
  by_cases hbig : n ≤ 100
  · have hbig' : ¬ (100 : Int) < (n : Int) := by omega
    go_wp2
    go_loopw [3] (fun i wr => ∃ k : Nat, k ≤ n ∧ i = .int .i64 k ∧ Hd (∀ j, j < k → (gl F j).L.length ≤ 100) ∧ wr = w1) (fun i _ => n - (intOf i).toNat)
    case atStart => exact ⟨0, Nat.zero_le _, rfl, ⟨fun j hj => absurd hj (Nat.not_lt_zero j)⟩, rfl⟩
    case round =>
      obtain ⟨k, hk, rfl, HA2, rfl⟩ := hrel
      by_cases hlt : k < n
      · obtain ⟨b1, o1, a1, c1', rfl, hb1, d0, d1, -⟩ := H.out.1.at (k := k) (by rw [HL.out]; exact hlt)
        have hm := HT.out k hlt
        obtain ⟨m, hm'⟩ : ∃ m, m = (gl F k).L.length := ⟨_, rfl⟩
        have HM : Hd (m = (gl F k).L.length) := ⟨hm'⟩
        rw [← hm'] at d1 hm
        clear hm'
        by_cases hs : m ≤ 100
        · have hs' : ¬ (100 : Int) < (m : Int) := by omega
          have HX : Hd (∀ j, j < k + 1 → (gl F j).L.length ≤ 100) := ⟨fun j hj => by
            rcases Nat.lt_or_eq_of_le (Nat.le_of_lt_succ hj) with h1 | rfl
            · exact HA2.out j h1
            · rw [← HM.out]; exact hs⟩
          clear HA2
          go_wp2
          go_roundw
          case rel => exact ⟨k + 1, by omega, by go_num, HX, by trivial⟩
          case measure => simp [intOf]; omega
        · have hs' : (100 : Int) < (m : Int) := by omega
          clear HA2
          go_wp2
          go_ret
          exact ⟨⟨false, rfl, ⟨fun e => by cases e⟩⟩, by rw [← HA.out]; exact H.out.2.1⟩
      · obtain rfl : k = n := by omega
        go_wp2
        go_ret
        exact ⟨⟨true, rfl, ⟨fun _ => ⟨by rw [HL.out]; exact hbig, fun j hj => HA2.out j (by rw [HL.out] at hj; exact hj)⟩⟩⟩, by rw [← HA.out]; exact H.out.2.1⟩
  · have hbig' : (100 : Int) < (n : Int) := by omega
    go_wp2
    go_ret
    exact ⟨⟨false, rfl, ⟨fun e => by cases e⟩⟩, by rw [← HA.out]; exact H.out.2.1⟩
end Go.Proofs.Ytemmkkcfjhmomab
