/-
  Requests: 'Small' of the reference. Condition: they lie in memory.
-/
import Derived.Test.YtajceffbpobglaaBas
namespace Go.Proofs.Ytajceffbpobglaa
open Go.RowKit

/-- A yes or a no. -/
structure IsQ (e : Ending) : Prop where
  ex : ∃ b, e = .returned (.bool b)

set_option maxHeartbeats 1000000 in
theorem smallQ_ok (v : Value) (q : Rq) (w : World) (h : RqR w v q) : Calls Try.prog 7 #[v] w fun e w' => IsQ e ∧ Below w.heap.size w w' := by
  obtain ⟨ag, ng, cg, rfl, hq⟩ := h.ex
  obtain ⟨z0, z2, z3, z4⟩ := h.sz
  clear h
  obtain ⟨x0, L, x2, x3, x4, x5⟩ := q
  simp only at *
  obtain ⟨a', c', e', hr', hc', hl', hx'⟩ := hq
  have hng : ng = L.length := by injection e'
  have hag : ag = a' := by injection e'
  subst hag
  have B : Below w.heap.size w (w.alloc (.cells #[.string x0, .slice ag ng cg, .string x2, .string x3, .string x4, .int .i64 x5] 24)) := alloc_below _ _
  have HR : Hd (RowL (w.alloc (.cells #[.string x0, .slice ag ng cg, .string x2, .string x3, .string x4, .int .i64 x5] 24)) ag L) := ⟨hr'.carry B⟩
  have HX : Hd (∀ k, k < ng → (gt L k).size ≤ 9223372036854775807) := ⟨fun k hk => by rw [gt_eq (by omega)]; exact hx' _ (List.getElem_mem _)⟩
  have HN : Hd (ng = L.length) := ⟨hng⟩
  have HB : Hd (Below w.heap.size w (w.alloc (.cells #[.string x0, .slice ag ng cg, .string x2, .string x3, .string x4, .int .i64 x5] 24))) := ⟨B⟩
  have N0 := Blk.new w 24 #[.string x0, .slice ag ng cg, .string x2, .string x3, .string x4, .int .i64 x5]
  rw [← hng] at hl'
  clear e' hr' hc' hx' hng B
  by_cases g0 : 1000 < x0.size
  · go_enter Try.func7, Try.ntmps7
    go_wp2_with fail
    go_ret
    exact ⟨⟨⟨_, rfl⟩⟩, HB.out⟩
  by_cases g2 : 1000 < x2.size
  · go_enter Try.func7, Try.ntmps7
    go_wp2_with fail
    go_ret
    exact ⟨⟨⟨_, rfl⟩⟩, HB.out⟩
  by_cases g3 : 1000 < x3.size
  · go_enter Try.func7, Try.ntmps7
    go_wp2_with fail
    go_ret
    exact ⟨⟨⟨_, rfl⟩⟩, HB.out⟩
  by_cases g4 : 1000 < x4.size
  · go_enter Try.func7, Try.ntmps7
    go_wp2_with fail
    go_ret
    exact ⟨⟨⟨_, rfl⟩⟩, HB.out⟩
  by_cases g5 : 40 < ng
  · go_enter Try.func7, Try.ntmps7
    go_wp2_with fail
    go_ret
    exact ⟨⟨⟨_, rfl⟩⟩, HB.out⟩
  have H5 : Hd (ng ≤ 40 ∧ x0.size ≤ 1000 ∧ x4.size ≤ 1000) := ⟨by omega⟩
  have d1 := N0.cellv (v := .slice ag ng cg) 1 rfl
  clear N0
  go_enter Try.func7, Try.ntmps7
  go_wp2_with fail
  clear g0 g2 g3 g4 g5
  generalize w.alloc _ = w2 at *
  go_loopw [3] (fun i wr => ∃ k : Nat, k ≤ ng ∧ i = .int .i64 k ∧ wr = w2) (fun i _ => ng - (intOf i).toNat)
  case atStart => exact ⟨0, Nat.zero_le _, rfl, rfl⟩
  case round =>
    obtain ⟨k, hk, rfl, rfl⟩ := hrel
    by_cases hlt : k < ng
    · obtain ⟨b, off, rfl, hb, hc⟩ := HR.out (by have := HN.out; omega)
      have ck := hc k (by have := HN.out; omega)
      have sk := HX.out k hlt
      have HI : Hd (k < ng) := ⟨hlt⟩
      clear hc
      generalize gt L k = y at ck sk
      by_cases g : 1000 < y.size
      · go_wp2_with fail
        go_ret
        exact ⟨⟨⟨_, rfl⟩⟩, HB.out⟩
      · go_wp2_with fail
        go_roundw
        case rel => exact ⟨k + 1, HI.out, by go_num, (by first | rfl | trivial)⟩
        case measure => have := HI.out; simp [intOf]; omega
    · obtain rfl : k = ng := by omega
      go_wp2_with fail
      go_ret
      exact ⟨⟨⟨_, rfl⟩⟩, HB.out⟩

end Go.Proofs.Ytajceffbpobglaa
