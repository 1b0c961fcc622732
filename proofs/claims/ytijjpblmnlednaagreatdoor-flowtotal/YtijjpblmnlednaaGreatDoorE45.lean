/-
  Whom a schema speaks of: 'Schema' of match.
-/
import Derived.Test.YtijjpblmnlednaaGreatDoorE44
namespace Go.Proofs.YtijjpblmnlednaaGreatDoor
open Go.RowKit
def schB (rs : List Rl) (q : Rq) : Bool := rs.any fun r => ruleB r q
theorem schB_no {rs : List Rl} {q : Rq} (h : ∀ j (h : j < rs.length), ruleB rs[j] q = false) : schB rs q = false := by
  unfold schB
  rw [List.any_eq_false]
  intro y hy
  obtain ⟨j, hj, rfl⟩ := List.getElem_of_mem hy
  simp [h j hj]
theorem schB_yes {rs : List Rl} {q : Rq} {k : Nat} (hk : k < rs.length) (h : ruleB rs[k] q = true) : schB rs q = true := by
  unfold schB
  rw [List.any_eq_true]
  exact ⟨rs[k], List.getElem_mem hk, h⟩
theorem nextR {rs : List Rl} {q : Rq} {k : Nat} (h : ∀ j (_ : j < rs.length), j < k → ruleB rs[j] q = false) (hk : k < rs.length) (hx : ruleB rs[k] q = false) : ∀ j (_ : j < rs.length), j < k + 1 → ruleB rs[j] q = false := fun j hj hjk => by
  rcases Nat.lt_or_eq_of_le (Nat.le_of_lt_succ hjk) with h1 | h1
  · exact h j hj h1
  · subst h1; exact hx

theorem ofR_ok {a0 a1 a2 a3 a4 ag : Option Addr} {n0 n1 n2 n3 n4 ng c0 c1 c2 c3 c4 cg : Nat} (r : Rl) (q : Rq) (g : Nat) (w : World) (hg : Blk w g 28 #[.string q.user, .slice ag ng cg, .string q.verb, .string q.resource, .string q.space, .int .i64 q.objects]) (hr : RuR w (.slice a0 n0 c0) (.slice a1 n1 c1) (.slice a2 n2 c2) (.slice a3 n3 c3) (.slice a4 n4 c4) r) (hq : LsR w (.slice ag ng cg) q.groups) :
    Calls Tryz.prog 48 #[.agg #[.slice a0 n0 c0, .slice a1 n1 c1, .slice a2 n2 c2, .slice a3 n3 c3, .slice a4 n4 c4], .pointer (some ⟨g, 0, none⟩)] w fun e w' => e = .returned (.bool (ruleB r q)) ∧ Below w.heap.size w w' := by
  obtain ⟨w2, hw2⟩ : ∃ w2, w2 = w.alloc (.cells #[.slice a0 n0 c0, .slice a1 n1 c1, .slice a2 n2 c2, .slice a3 n3 c3, .slice a4 n4 c4] 50) := ⟨_, rfl⟩
  have B : Below w.heap.size w w2 := by rw [hw2]; exact alloc_below _ _
  have N1 : Blk w2 w.heap.size 50 #[.slice a0 n0 c0, .slice a1 n1 c1, .slice a2 n2 c2, .slice a3 n3 c3, .slice a4 n4 c4] := by rw [hw2]; exact Blk.new _ _ _
  have N2 := hg.kept (Kept.of_below B (fun _ => False)) id
  have H0 := rule_ok r q w2 (hr.carry B) (hq.carry B)
  have e0 := N1.cellv (v := .slice a0 n0 c0) 0 rfl
  have e1 := N1.cellv (v := .slice a1 n1 c1) 1 rfl
  have e2 := N1.cellv (v := .slice a2 n2 c2) 2 rfl
  have e3 := N1.cellv (v := .slice a3 n3 c3) 3 rfl
  have e4 := N1.cellv (v := .slice a4 n4 c4) 4 rfl
  have d0 := N2.cellv (v := .string q.user) 0 rfl
  have d1 := N2.cellv (v := .slice ag ng cg) 1 rfl
  have d2 := N2.cellv (v := .string q.verb) 2 rfl
  have d3 := N2.cellv (v := .string q.resource) 3 rfl
  have d4 := N2.cellv (v := .string q.space) 4 rfl
  have d5 := N2.cellv (v := .int .i64 q.objects) 5 rfl
  have HB : Hd (Below w.heap.size w w2) := ⟨B⟩
  clear N1 N2 hr hq hg B
  generalize ruleB r q = b0 at *
  obtain ⟨x0, G, x2, x3, x4, x5⟩ := q
  simp only at *
  go_enter Tryz.func48, Tryz.ntmps48
  go_upto_region 1 with fail
  rw [← hw2]
  clear hw2
  go_wp2_with (go_at_call 49; refine H0.mono ?_; rintro e w3 ⟨rfl, b3⟩)
  go_ret
  exact ⟨rfl, HB.out.trans (b3.mono HB.out.size)⟩

/-- Rules that are read, one after another. -/
theorem RlR.at {w : World} {v : Value} {rs : List Rl} (h : RlR w v rs) : ∃ a c, v = .slice a rs.length c ∧ rs.length ≤ 9223372036854775807 ∧ ∀ k (hk : k < rs.length), ∃ b off, a = some ⟨b, off, none⟩ ∧ b < w.heap.size ∧ ∃ a0 n0 c0 a1 n1 c1 a2 n2 c2 a3 n3 c3 a4 n4 c4,
    (w.cell? ⟨b, off + k * 5, none⟩ = some (.slice a0 n0 c0) ∧ w.cell? ⟨b, off + k * 5 + 1, none⟩ = some (.slice a1 n1 c1) ∧ w.cell? ⟨b, off + k * 5 + 2, none⟩ = some (.slice a2 n2 c2) ∧ w.cell? ⟨b, off + k * 5 + 3, none⟩ = some (.slice a3 n3 c3) ∧ w.cell? ⟨b, off + k * 5 + 4, none⟩ = some (.slice a4 n4 c4)) ∧ RuR w (.slice a0 n0 c0) (.slice a1 n1 c1) (.slice a2 n2 c2) (.slice a3 n3 c3) (.slice a4 n4 c4) rs[k] := by
  obtain ⟨a, c, rfl, hl, h⟩ := h
  refine ⟨a, c, rfl, hl, fun k hk => ?_⟩
  obtain ⟨b, off, rfl, hb, hc⟩ := h (by omega)
  refine ⟨b, off, rfl, hb, ?_⟩
  obtain ⟨v0, v1, v2, v3, v4, hcs, hr⟩ := hc k hk
  have hr0 := hr
  obtain ⟨⟨a0, c0, e0, -⟩, ⟨a1, c1, e1, -⟩, ⟨a2, c2, e2, -⟩, ⟨a3, c3, e3, -⟩, ⟨a4, c4, e4, -⟩⟩ := hr0
  subst e0 e1 e2 e3 e4
  exact ⟨_, _, _, _, _, _, _, _, _, _, _, _, _, _, _, hcs, hr⟩

set_option maxHeartbeats 1000000 in
theorem indexR_ok {ag : Option Addr} {ng cg : Nat} (v : Value) (rs : List Rl) (q : Rq) (g : Nat) (w : World) (hv : RlR w v rs) (hg : Blk w g 28 #[.string q.user, .slice ag ng cg, .string q.verb, .string q.resource, .string q.space, .int .i64 q.objects]) (hq : LsR w (.slice ag ng cg) q.groups) :
    Calls Tryz.prog 96 #[v, .func (.func 48) #[] #[.pointer (some ⟨g, 0, none⟩)]] w fun e w' => (∃ q' : Int, e = .returned (.int .i64 q') ∧ decide (0 ≤ q') = schB rs q) ∧ Below w.heap.size w w' := by
  have eg : ∀ args w, (callFunc 48 args).run Tryz.prog w = .ok (.enter 48 args) w := enters_of Tryz.func48 (by kernel_rfl) rfl
  obtain ⟨a, c, rfl, hl, -⟩ := hv.at
  have HR : Hd (∀ W, Below w.heap.size w W → RlR W (.slice a rs.length c) rs ∧ Blk W g 28 #[.string q.user, .slice ag ng cg, .string q.verb, .string q.resource, .string q.space, .int .i64 q.objects] ∧ LsR W (.slice ag ng cg) q.groups) := ⟨fun W b => ⟨hv.carry b, hg.kept (Kept.of_below b (fun _ => False)) id, hq.carry b⟩⟩
  clear hv hg hq
  go_enter Tryz.func96, Tryz.ntmps96
  go_wp2_with fail
  go_loopw [8] (fun i wr => ∃ k : Nat, k ≤ rs.length ∧ i = .int .i64 k ∧ Hd (∀ j (_ : j < rs.length), j < k → ruleB rs[j] q = false) ∧ Below w.heap.size w wr) (fun i _ => rs.length - (intOf i).toNat)
  case atStart => exact ⟨0, Nat.zero_le _, rfl, ⟨fun j _ h => absurd h (Nat.not_lt_zero _)⟩, Below.refl _ _⟩
  case round =>
    obtain ⟨k, hk, rfl, hno, hb⟩ := hrel
    by_cases hlt : k < rs.length
    · obtain ⟨hR, hG, hQ⟩ := HR.out wr hb
      obtain ⟨a', c', e', hl', hR⟩ := hR.at
      obtain ⟨b, off, rfl, hbl, a0, n0, c0, a1, n1, c1, a2, n2, c2, a3, n3, c3, a4, n4, c4, ⟨k0, k1, k2, k3, k4⟩, hr⟩ := hR k hlt
      obtain rfl : a = some ⟨b, off, none⟩ := by injection e'
      have I := ofR_ok rs[k] q g wr hG hr hQ
      clear hR e' hG hQ hr hbl
      have HI : Hd (k < rs.length) := ⟨hlt⟩
      have BB : Hd (Below w.heap.size w wr) := ⟨hb⟩
      cases hx : ruleB rs[k] q with
      | true =>
        have A : Hd (schB rs q = true) := ⟨schB_yes hlt hx⟩
        rw [hx] at I
        clear hno hx hb
        go_wp2_with (go_at_fn 48; refine I.mono ?_; rintro e w2 ⟨rfl, h2⟩)
        go_ret
        exact ⟨⟨k, rfl, by rw [A.out]; exact decide_eq_true (Int.natCast_nonneg k)⟩, BB.out.trans (h2.mono BB.out.size)⟩
      | false =>
        have A : Hd (∀ j (_ : j < rs.length), j < k + 1 → ruleB rs[j] q = false) := ⟨nextR hno.out hlt hx⟩
        rw [hx] at I
        clear hno hx hb
        go_wp2_with (go_at_fn 48; refine I.mono ?_; rintro e w2 ⟨rfl, h2⟩)
        go_roundw
        case rel => exact ⟨k + 1, HI.out, by go_num, A, BB.out.trans (h2.mono BB.out.size)⟩
        case measure => have := HI.out; simp [intOf]; omega
    · obtain rfl : k = rs.length := by omega
      have A : Hd (schB rs q = false) := ⟨schB_no fun j hj => hno.out j hj hj⟩
      clear hno
      go_wp2_with fail
      go_ret
      exact ⟨⟨-1, rfl, by rw [A.out]; decide⟩, hb⟩

theorem containsR_ok {ag : Option Addr} {ng cg : Nat} (v : Value) (rs : List Rl) (q : Rq) (g : Nat) (w : World) (hv : RlR w v rs) (hg : Blk w g 28 #[.string q.user, .slice ag ng cg, .string q.verb, .string q.resource, .string q.space, .int .i64 q.objects]) (hq : LsR w (.slice ag ng cg) q.groups) :
    Calls Tryz.prog 47 #[v, .func (.func 48) #[] #[.pointer (some ⟨g, 0, none⟩)]] w fun e w' => e = .returned (.bool (schB rs q)) ∧ Below w.heap.size w w' := by
  have I := indexR_ok v rs q g w hv hg hq
  obtain ⟨a, c, rfl, hl, -⟩ := hv.at
  clear hv hg hq
  generalize schB rs q = b at *
  generalize rs.length = m at *
  go_enter Tryz.func47, Tryz.ntmps47
  go_wp2_with (go_at_call 96; refine I.mono ?_; rintro e w' ⟨⟨q', rfl, hq⟩, hb⟩)
  go_ret
  exact ⟨by rw [← hq]; rfl, hb⟩

theorem speak_ok {ag ar : Option Addr} {ng cg nr cr : Nat} {y0 y1 : ByteArray} {y2 y3 : Int} (rs : List Rl) (q : Rq) (w : World) (hv : RlR w (.slice ar nr cr) rs) (hq : LsR w (.slice ag ng cg) q.groups) :
    Calls Tryz.prog 21 #[.agg #[.string y0, .string y1, .int .i64 y2, .int .i64 y3, .slice ar nr cr], .agg #[.string q.user, .slice ag ng cg, .string q.verb, .string q.resource, .string q.space, .int .i64 q.objects]] w fun e w' => e = .returned (.bool (schB rs q)) ∧ Below w.heap.size w w' := by
  obtain ⟨w2, hw2⟩ : ∃ w2, w2 = (w.alloc (.cells #[.string y0, .string y1, .int .i64 y2, .int .i64 y3, .slice ar nr cr] 53)).alloc (.cells #[.string q.user, .slice ag ng cg, .string q.verb, .string q.resource, .string q.space, .int .i64 q.objects] 28) := ⟨_, rfl⟩
  have BX := boxes w 53 28 #[.string y0, .string y1, .int .i64 y2, .int .i64 y3, .slice ar nr cr] #[.string q.user, .slice ag ng cg, .string q.verb, .string q.resource, .string q.space, .int .i64 q.objects]
  rw [← hw2] at BX
  obtain ⟨B, N1, N2⟩ := BX
  have H0 := containsR_ok _ rs q (w.heap.size + 1) w2 (hv.carry B) N2 (hq.carry B)
  have e4 := N1.cellv (v := .slice ar nr cr) 4 rfl
  have HB : Hd (Below w.heap.size w w2) := ⟨B⟩
  clear N1 N2 hv hq B
  generalize schB rs q = b0 at *
  go_enter Tryz.func21, Tryz.ntmps21
  go_upto_region 1 with fail
  rw [← hw2]
  clear hw2
  go_wp2_with (go_at_call 47; refine H0.mono ?_; rintro e w3 ⟨rfl, b3⟩)
  go_ret
  exact ⟨rfl, HB.out.trans (b3.mono HB.out.size)⟩
end Go.Proofs.YtijjpblmnlednaaGreatDoor
