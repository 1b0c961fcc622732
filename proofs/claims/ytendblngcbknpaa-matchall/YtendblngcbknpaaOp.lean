/-
  A configuration of one schema, and of one rule, as the laws lay it. Condition: rule, schema and request lie in memory.
-/
import Derived.Test.YtendblngcbknpaaAw
import Derived.Test.YtendblngcbknpaaSq
import Derived.Test.YtendblngcbknpaaSmB
namespace Go.Proofs.Ytendblngcbknpaa
open Go.RowKit

theorem rl_one {W : World} {g : Nat} {a0 a1 a2 a3 a4 : Option Addr} {n0 n1 n2 n3 n4 c0 c1 c2 c3 c4 : Nat} {r : Rl} (N : Blk W g 39 #[.slice a0 n0 c0, .slice a1 n1 c1, .slice a2 n2 c2, .slice a3 n3 c3, .slice a4 n4 c4]) (h : RuR W (.slice a0 n0 c0) (.slice a1 n1 c1) (.slice a2 n2 c2) (.slice a3 n3 c3) (.slice a4 n4 c4) r) : RlR W (.slice (some ⟨g, 0, none⟩) 1 1) [r] := by
  refine ⟨_, _, rfl, by simp, fun _ => ⟨g, 0, rfl, N.lt, fun k hk => ?_⟩⟩
  obtain rfl : k = 0 := by simp at hk; exact hk
  exact ⟨_, _, _, _, _, ⟨N.cellv 0 rfl, N.cellv 1 rfl, N.cellv 2 rfl, N.cellv 3 rfl, N.cellv 4 rfl⟩, h⟩
theorem cf_one {W : World} {g : Nat} {y0 y1 : ByteArray} {y2 y3 : Int} {v : Value} {rs : List Rl} (N : Blk W g 24 #[.string y0, .string y1, .int .i64 y2, .int .i64 y3, v]) (h : RlR W v rs) (h0 : y0.size ≤ 9223372036854775807) (h1 : y1.size ≤ 9223372036854775807) :
    CfR W (.agg #[.int .i64 0, .int .i64 0, .int .i64 0, .int .i64 0, .slice none 0 0, .slice (some ⟨g, 0, none⟩) 1 1]) ⟨0, 0, 0, 0, [], [⟨y0, y1, y2, y3, rs⟩]⟩ := by
  refine ⟨⟨by simp, by simp⟩, ⟨fun l h => absurd h List.not_mem_nil, fun s hs => by rw [List.mem_singleton.1 hs]; exact ⟨h0, h1⟩⟩, none, 0, some ⟨g, 0, none⟩, 1, [v], rfl, Nat.le_refl _, Nat.le_refl _, fun h => absurd h (Nat.lt_irrefl 0), rfl, fun _ => ⟨g, 0, rfl, N.lt, fun k hk hk' j hj => ?_⟩, fun k hk hk' => ?_⟩
  · obtain rfl : k = 0 := by simp at hk; exact hk
    have := N.cell (0 + 0 * 5 + j)
    rw [this]
    simp [scC]
  · obtain rfl : k = 0 := by simp at hk; exact hk
    exact h
/-- What Small's yes says of a configuration of one schema. -/
theorem bnd_rules {n : Nat} {s : Sc} (h : Bnd n ⟨0, 0, 0, 0, [], [s]⟩) : s.rules.length ≤ n ∧ ∀ r ∈ s.rules, RlN n r := h.rl s (List.mem_singleton.2 rfl)
def emB (n0 n1 n2 n3 n4 : Nat) : Bool := (((decide (n0 = 0) && decide (n1 = 0)) || decide (n2 = 0)) || decide (n3 = 0)) || decide (n4 = 0)
theorem hasB_nil (x : ByteArray) : hasB [] x = false := rfl
theorem hasB_star (x : ByteArray) : hasB [⟨#[42]⟩] x = true := by
  unfold hasB allT
  have : gt [(⟨#[42]⟩ : ByteArray)] 0 = star := rfl
  rw [this, decide_eq_true (rfl : star = star)]
  rfl
theorem anyG_nil (L : List ByteArray) : anyG [] L = false := anyG_no fun _ _ => hasB_nil _
theorem len0 {L : List ByteArray} (h : L.length = 0) : L = [] := List.length_eq_zero_iff.1 h
theorem ruleB_em {r : Rl} {q : Rq} (h : emB r.users.length r.groups.length r.verbs.length r.resources.length r.spaces.length = true) : ruleB r q = false := by
  obtain ⟨L0, L1, L2, L3, L4⟩ := r
  unfold emB at h
  simp only [Bool.or_eq_true, Bool.and_eq_true, decide_eq_true_eq] at h
  unfold ruleB askB
  rcases h with (((⟨h0, h1⟩ | h2) | h3) | h4)
  · rw [len0 h0, len0 h1, hasB_nil, anyG_nil]; rfl
  · rw [len0 h2, hasB_nil]; cases askB ⟨L0, L1, [], L3, L4⟩ q <;> simp
  · rw [len0 h3, hasB_nil]; simp
  · rw [len0 h4, hasB_nil]; simp
theorem ruleB_all (G : List ByteArray) (q : Rq) : ruleB ⟨[⟨#[42]⟩], G, [⟨#[42]⟩], [⟨#[42]⟩], [⟨#[42]⟩]⟩ q = true := by
  unfold ruleB askB
  rw [hasB_star, hasB_star, hasB_star, hasB_star]
  rfl
theorem ruleB_none (q : Rq) : ruleB ⟨[], [], [⟨#[42]⟩], [⟨#[42]⟩], [⟨#[42]⟩]⟩ q = false := by
  unfold ruleB askB
  rw [hasB_nil, anyG_nil]
  rfl
end Go.Proofs.Ytendblngcbknpaa
