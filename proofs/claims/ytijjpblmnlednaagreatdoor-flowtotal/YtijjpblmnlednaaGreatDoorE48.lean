/-
  Lists, rules and schemas of one, as they are laid; the fixed answer that each law begins with: it is right.
  Of a table that was made each request has a class, of a level that is there: the mathematics.
-/
import Derived.Test.YtijjpblmnlednaaGreatDoorE47
import Derived.Test.YtijjpblmnlednaaGreatDoorE43
namespace Go.Proofs.YtijjpblmnlednaaGreatDoor
open Go.RowKit
theorem ls_blk {W : World} {g : Nat} {x : ByteArray} (N : Blk W g 9 #[.string x]) (h : x.size ≤ 9223372036854775807) : LsR W (.slice (some ⟨g, 0, none⟩) 1 1) [x] := by
  refine ⟨_, _, rfl, fun _ => ⟨g, 0, rfl, N.lt, fun k hk => ?_⟩, Nat.le_refl _, by simp, fun y hy => by rw [List.mem_singleton.1 hy]; exact h⟩
  obtain rfl : k = 0 := by simp at hk; exact hk
  exact N.cellv 0 rfl
theorem ls_nil (w : World) : LsR w (.slice none 0 0) [] := ⟨none, 0, rfl, fun h => absurd h (Nat.lt_irrefl 0), Nat.le_refl _, Nat.zero_le _, fun _ h => by cases h⟩
theorem rl_one {W : World} {g : Nat} {a0 a1 a2 a3 a4 : Option Addr} {n0 n1 n2 n3 n4 c0 c1 c2 c3 c4 : Nat} {r : Rl} (N : Blk W g 50 #[.slice a0 n0 c0, .slice a1 n1 c1, .slice a2 n2 c2, .slice a3 n3 c3, .slice a4 n4 c4]) (h : RuR W (.slice a0 n0 c0) (.slice a1 n1 c1) (.slice a2 n2 c2) (.slice a3 n3 c3) (.slice a4 n4 c4) r) : RlR W (.slice (some ⟨g, 0, none⟩) 1 1) [r] := by
  refine ⟨_, _, rfl, by simp, fun _ => ⟨g, 0, rfl, N.lt, fun k hk => ?_⟩⟩
  obtain rfl : k = 0 := by simp at hk; exact hk
  exact ⟨_, _, _, _, _, ⟨N.cellv 0 rfl, N.cellv 1 rfl, N.cellv 2 rfl, N.cellv 3 rfl, N.cellv 4 rfl⟩, h⟩
theorem ss_one {W : World} {g : Nat} {v : Value} {s : Sc} (N : Blk W g 53 #[.string s.name, .string s.level, .int .i64 s.rank, .int .i64 s.way, v]) (h : RlR W v s.rules) (h0 : s.name.size ≤ 9223372036854775807) (h1 : s.level.size ≤ 9223372036854775807) : SsR W (.slice (some ⟨g, 0, none⟩) 1 1) [s] := by
  refine ⟨⟨some ⟨g, 0, none⟩, 1, [v], rfl, by simp, rfl, fun _ => ⟨g, 0, rfl, N.lt, fun k hk hk' j hj => ?_⟩, fun k hk hk' => ?_⟩, fun x hx => by rw [List.mem_singleton.1 hx]; exact ⟨h0, h1⟩⟩
  · obtain rfl : k = 0 := by simp at hk; exact hk
    have := N.cell (0 + 0 * 5 + j)
    rw [this]
    simp [scC]
  · obtain rfl : k = 0 := by simp at hk; exact hk
    exact h
def rlU : Rl := ⟨[⟨#[42]⟩], [], [⟨#[42]⟩], [⟨#[42]⟩], [⟨#[42]⟩]⟩
def scU : Sc := ⟨⟨#[115]⟩, ⟨#[97]⟩, 0, 1, [rlU]⟩
def rqU : Rq := ⟨⟨#[117]⟩, [], ⟨#[]⟩, ⟨#[]⟩, ⟨#[]⟩, 0⟩
theorem findU : findS [scU] rqU = some scU := findS_at [scU] rqU 0 (by decide) (by decide +kernel) (fun j _ h => absurd h (Nat.not_lt_zero _))
theorem aw_world (w : World) : Below w.heap.size w (((w.alloc (.cells #[.string ⟨#[42]⟩] 9)).alloc (.cells #[.slice (some ⟨w.heap.size, 0, none⟩) 1 1, .slice none 0 0, .slice (some ⟨w.heap.size, 0, none⟩) 1 1, .slice (some ⟨w.heap.size, 0, none⟩) 1 1, .slice (some ⟨w.heap.size, 0, none⟩) 1 1] 50)).alloc (.cells #[.string ⟨#[115]⟩, .string ⟨#[97]⟩, .int .i64 0, .int .i64 1, .slice (some ⟨w.heap.size + 1, 0, none⟩) 1 1] 53)) ∧ (∀ W, Below (((w.alloc (.cells #[.string ⟨#[42]⟩] 9)).alloc (.cells #[.slice (some ⟨w.heap.size, 0, none⟩) 1 1, .slice none 0 0, .slice (some ⟨w.heap.size, 0, none⟩) 1 1, .slice (some ⟨w.heap.size, 0, none⟩) 1 1, .slice (some ⟨w.heap.size, 0, none⟩) 1 1] 50)).alloc (.cells #[.string ⟨#[115]⟩, .string ⟨#[97]⟩, .int .i64 0, .int .i64 1, .slice (some ⟨w.heap.size + 1, 0, none⟩) 1 1] 53)).heap.size (((w.alloc (.cells #[.string ⟨#[42]⟩] 9)).alloc (.cells #[.slice (some ⟨w.heap.size, 0, none⟩) 1 1, .slice none 0 0, .slice (some ⟨w.heap.size, 0, none⟩) 1 1, .slice (some ⟨w.heap.size, 0, none⟩) 1 1, .slice (some ⟨w.heap.size, 0, none⟩) 1 1] 50)).alloc (.cells #[.string ⟨#[115]⟩, .string ⟨#[97]⟩, .int .i64 0, .int .i64 1, .slice (some ⟨w.heap.size + 1, 0, none⟩) 1 1] 53)) W → RlR W (.slice (some ⟨w.heap.size + 1, 0, none⟩) 1 1) [rlU]) ∧ Blk (((w.alloc (.cells #[.string ⟨#[42]⟩] 9)).alloc (.cells #[.slice (some ⟨w.heap.size, 0, none⟩) 1 1, .slice none 0 0, .slice (some ⟨w.heap.size, 0, none⟩) 1 1, .slice (some ⟨w.heap.size, 0, none⟩) 1 1, .slice (some ⟨w.heap.size, 0, none⟩) 1 1] 50)).alloc (.cells #[.string ⟨#[115]⟩, .string ⟨#[97]⟩, .int .i64 0, .int .i64 1, .slice (some ⟨w.heap.size + 1, 0, none⟩) 1 1] 53)) (w.heap.size + 1 + 1) 53 #[.string ⟨#[115]⟩, .string ⟨#[97]⟩, .int .i64 0, .int .i64 1, .slice (some ⟨w.heap.size + 1, 0, none⟩) 1 1] ∧ (((w.alloc (.cells #[.string ⟨#[42]⟩] 9)).alloc (.cells #[.slice (some ⟨w.heap.size, 0, none⟩) 1 1, .slice none 0 0, .slice (some ⟨w.heap.size, 0, none⟩) 1 1, .slice (some ⟨w.heap.size, 0, none⟩) 1 1, .slice (some ⟨w.heap.size, 0, none⟩) 1 1] 50)).alloc (.cells #[.string ⟨#[115]⟩, .string ⟨#[97]⟩, .int .i64 0, .int .i64 1, .slice (some ⟨w.heap.size + 1, 0, none⟩) 1 1] 53)).heap.size = w.heap.size + 1 + 1 + 1 := by
  have BX := boxes3 w 9 50 53 #[.string ⟨#[42]⟩] #[.slice (some ⟨w.heap.size, 0, none⟩) 1 1, .slice none 0 0, .slice (some ⟨w.heap.size, 0, none⟩) 1 1, .slice (some ⟨w.heap.size, 0, none⟩) 1 1, .slice (some ⟨w.heap.size, 0, none⟩) 1 1] #[.string ⟨#[115]⟩, .string ⟨#[97]⟩, .int .i64 0, .int .i64 1, .slice (some ⟨w.heap.size + 1, 0, none⟩) 1 1]
  have Z : (((w.alloc (.cells #[.string ⟨#[42]⟩] 9)).alloc (.cells #[.slice (some ⟨w.heap.size, 0, none⟩) 1 1, .slice none 0 0, .slice (some ⟨w.heap.size, 0, none⟩) 1 1, .slice (some ⟨w.heap.size, 0, none⟩) 1 1, .slice (some ⟨w.heap.size, 0, none⟩) 1 1] 50)).alloc (.cells #[.string ⟨#[115]⟩, .string ⟨#[97]⟩, .int .i64 0, .int .i64 1, .slice (some ⟨w.heap.size + 1, 0, none⟩) 1 1] 53)).heap.size = w.heap.size + 1 + 1 + 1 := by simp
  generalize ((w.alloc (.cells #[.string ⟨#[42]⟩] 9)).alloc (.cells #[.slice (some ⟨w.heap.size, 0, none⟩) 1 1, .slice none 0 0, .slice (some ⟨w.heap.size, 0, none⟩) 1 1, .slice (some ⟨w.heap.size, 0, none⟩) 1 1, .slice (some ⟨w.heap.size, 0, none⟩) 1 1] 50)).alloc (.cells #[.string ⟨#[115]⟩, .string ⟨#[97]⟩, .int .i64 0, .int .i64 1, .slice (some ⟨w.heap.size + 1, 0, none⟩) 1 1] 53) = u3 at *
  obtain ⟨B, N1, N2, N3⟩ := BX
  have L1 := ls_blk N1 (by decide)
  have R1 : RlR u3 (.slice (some ⟨w.heap.size + 1, 0, none⟩) 1 1) [rlU] := rl_one N2 ⟨L1, ls_nil _, L1, L1, L1⟩
  exact ⟨B, fun W b => R1.carry b, N3, Z⟩

set_option maxHeartbeats 2000000 in
theorem awake_ok (w : World) : Calls Tryz.prog 4 #[] w fun e w' => e = .returned (.bool true) ∧ Below w.heap.size w w' := by
  have AW := aw_world w
  go_enter Tryz.func4, Tryz.ntmps4
  go_upto_region 3 with fail
  generalize ((w.alloc (.cells #[.string ⟨#[42]⟩] 9)).alloc (.cells #[.slice (some ⟨w.heap.size, 0, none⟩) 1 1, .slice none 0 0, .slice (some ⟨w.heap.size, 0, none⟩) 1 1, .slice (some ⟨w.heap.size, 0, none⟩) 1 1, .slice (some ⟨w.heap.size, 0, none⟩) 1 1] 50)).alloc (.cells #[.string ⟨#[115]⟩, .string ⟨#[97]⟩, .int .i64 0, .int .i64 1, .slice (some ⟨w.heap.size + 1, 0, none⟩) 1 1] 53) = u3 at *
  obtain ⟨B3, HR, N3, Z⟩ := AW
  have N4 := Blk.new u3 53 #[.string ⟨#[115]⟩, .string ⟨#[97]⟩, .int .i64 0, .int .i64 1, .slice (some ⟨w.heap.size + 1, 0, none⟩) 1 1]
  have B4 := alloc_below u3 (.cells #[.string ⟨#[115]⟩, .string ⟨#[97]⟩, .int .i64 0, .int .i64 1, .slice (some ⟨w.heap.size + 1, 0, none⟩) 1 1] 53)
  have S4 : SsR (u3.alloc (.cells #[.string ⟨#[115]⟩, .string ⟨#[97]⟩, .int .i64 0, .int .i64 1, .slice (some ⟨w.heap.size + 1, 0, none⟩) 1 1] 53)) (.slice (some ⟨u3.heap.size, 0, none⟩) 1 1) [scU] := ss_one (s := scU) N4 (HR _ B4) (by decide) (by decide)
  have C := classify_ok (z0 := 0) (z1 := 0) (z2 := 0) (z3 := 0) (aL := none) (nL := 0) (cL := 0) (d := 0) [scU] rqU _ S4 (ls_nil _) (by decide) (by decide)
  rw [findU] at C
  have C' : Calls Tryz.prog 8 #[.agg #[.int .i64 0, .int .i64 0, .int .i64 0, .int .i64 0, .slice none 0 0, .slice (some ⟨u3.heap.size, 0, none⟩) 1 1, .int .u64 0], .agg #[.string ⟨#[117]⟩, .slice none 0 0, .string ⟨#[]⟩, .string ⟨#[]⟩, .string ⟨#[]⟩, .int .i64 0]] (u3.alloc (.cells #[.string ⟨#[115]⟩, .string ⟨#[97]⟩, .int .i64 0, .int .i64 1, .slice (some ⟨w.heap.size + 1, 0, none⟩) 1 1] 53)) fun e w' => e = .returned (.tuple #[.agg #[.string ⟨#[115]⟩, .string ⟨#[97]⟩, .string ⟨#[117]⟩, .int .u64 (Fn.flow ⟨#[115]⟩ ⟨#[117]⟩ : Nat)], .int .i64 0]) ∧ Below (u3.alloc (.cells #[.string ⟨#[115]⟩, .string ⟨#[97]⟩, .int .i64 0, .int .i64 1, .slice (some ⟨w.heap.size + 1, 0, none⟩) 1 1] 53)).heap.size (u3.alloc (.cells #[.string ⟨#[115]⟩, .string ⟨#[97]⟩, .int .i64 0, .int .i64 1, .slice (some ⟨w.heap.size + 1, 0, none⟩) 1 1] 53)) w' := C
  have FL := Fn.flow_lt ⟨#[115]⟩ ⟨#[117]⟩
  have HB : Hd (Below w.heap.size w (u3.alloc (.cells #[.string ⟨#[115]⟩, .string ⟨#[97]⟩, .int .i64 0, .int .i64 1, .slice (some ⟨w.heap.size + 1, 0, none⟩) 1 1] 53))) := ⟨B3.trans (B4.mono B3.size)⟩
  have e0 := N3.cellv (v := .string ⟨#[115]⟩) 0 rfl
  have e1 := N3.cellv (v := .string ⟨#[97]⟩) 1 rfl
  have e2 := N3.cellv (v := .int .i64 0) 2 rfl
  have e3 := N3.cellv (v := .int .i64 1) 3 rfl
  have e4 := N3.cellv (v := .slice (some ⟨w.heap.size + 1, 0, none⟩) 1 1) 4 rfl
  clear C S4 N4 N3 HR B3 B4 Z
  generalize Fn.flow ⟨#[115]⟩ ⟨#[117]⟩ = f at *
  generalize w.heap.size + 1 + 1 = g2 at *
  generalize w.heap.size + 1 = g1 at *
  go_wp2_with fail
  refine C'.mono ?_
  rintro e w5 ⟨rfl, b5⟩
  have B5 : Hd (Below w.heap.size w w5) := ⟨HB.out.trans (b5.mono HB.out.size)⟩
  clear C' e0 e1 e2 e3 e4 b5 HB
  have B6 : Hd (Below w.heap.size w (w5.alloc (.cells #[.string ⟨#[115]⟩, .string ⟨#[97]⟩, .string ⟨#[117]⟩, .int .u64 f] 40))) := ⟨B5.out.trans ((alloc_below _ _).mono B5.out.size)⟩
  go_wp2_with fail
  go_ret
  exact ⟨rfl, B6.out⟩
end Go.Proofs.YtijjpblmnlednaaGreatDoor

namespace Go.Proofs.YtijjpblmnlednaaGreatDoor
theorem hasB_one {L : List ByteArray} (h : isStar L = true) (x : ByteArray) : hasB L x = true := by
  unfold isStar at h
  rw [decide_eq_true_eq] at h
  rw [h]
  unfold hasB allT
  have : gt [tStar] 0 = star := rfl
  rw [this, decide_eq_true (rfl : star = star)]
  rfl
theorem ruleB_one {r : Rl} (h : rlAll r = true) (q : Rq) : ruleB r q = true := by
  unfold rlAll at h
  simp only [Bool.and_eq_true] at h
  unfold ruleB askB
  rw [hasB_one h.1, hasB_one h.2.1, hasB_one h.2.2.1, hasB_one h.2.2.2]
  rfl
/-- The catch-all schema speaks of everybody. -/
theorem Passes.speaks {T : Cf} (h : Passes T) (q : Rq) : ∃ c ∈ T.schemas, schB c.rules q = true := by
  have hp := h.p.2.2.2
  unfold anyS at hp
  rw [List.any_eq_true] at hp
  obtain ⟨c, hc, e⟩ := hp
  rw [decide_eq_true_eq] at e
  refine ⟨c, hc, ?_⟩
  have hs := h.s c hc
  unfold scErr at hs
  by_cases h1 : anyL T.levels c.level = true
  · rw [if_pos h1] at hs
    by_cases h2 : scFit c = true
    · unfold scFit at h2
      rw [e, if_neg (by decide), if_pos rfl] at h2
      simp only [Bool.and_eq_true] at h2
      have h3 := h2.2.2
      rw [List.any_eq_true] at h3
      obtain ⟨r, hr, ha⟩ := h3
      unfold schB
      rw [List.any_eq_true]
      exact ⟨r, hr, ruleB_one ha q⟩
    · rw [if_neg h2] at hs
      exact absurd hs (by decide)
  · rw [if_neg h1] at hs
    exact absurd hs (by decide)
theorem Passes.level {T : Cf} (h : Passes T) {s : Sc} (hs : s ∈ T.schemas) : anyL T.levels s.level = true := by
  have e := h.s s hs
  unfold scErr at e
  by_cases h1 : anyL T.levels s.level = true
  · exact h1
  · rw [if_neg h1] at e
    exact absurd e (by decide)
theorem Passes.total {T : Cf} (h : Passes T) (q : Rq) : ∃ s, findS T.schemas q = some s ∧ (findL T.levels s.level).isSome = true := by
  obtain ⟨c, hc, hb⟩ := h.speaks q
  cases hf : findS T.schemas q with
  | none =>
    unfold findS at hf
    rw [List.find?_eq_none] at hf
    exact absurd hb (hf c hc)
  | some s =>
    refine ⟨s, rfl, ?_⟩
    have hm : s ∈ T.schemas := by
      unfold findS at hf
      exact List.mem_of_find?_eq_some hf
    have ha := h.level hm
    unfold anyL at ha
    unfold findL
    rw [List.find?_isSome]
    rw [List.any_eq_true] at ha
    exact ha
end Go.Proofs.YtijjpblmnlednaaGreatDoor
