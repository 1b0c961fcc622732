/-
  Requests: 'Small', 'Copy' and 'Same' of the reference. Condition: they lie in memory.
-/
import Derived.Test.YtendblngcbknpaaRu
import Derived.Test.YtendblngcbknpaaCpW
import Derived.BigQuiet
namespace Go.Proofs.Ytendblngcbknpaa
open Go.RowKit

/-- A request that is read. -/
structure RqR (w : World) (v : Value) (q : Rq) : Prop where
  ex : ∃ a n c, v = .agg (#[.string q.user, .slice a n c, .string q.verb, .string q.resource, .string q.space, .int .i64 q.objects]) ∧ LsR w (.slice a n c) q.groups
  sz : q.user.size ≤ 9223372036854775807 ∧ q.verb.size ≤ 9223372036854775807 ∧ q.resource.size ≤ 9223372036854775807 ∧ q.space.size ≤ 9223372036854775807
theorem RqR.carry {w w' : World} {v : Value} {q : Rq} (h : RqR w v q) (b : Below w.heap.size w w') : RqR w' v q := by
  obtain ⟨a, n, c, e, hl⟩ := h.ex
  exact ⟨⟨a, n, c, e, hl.carry b⟩, h.sz⟩
/-- A yes, which says that there are few groups, or a no. -/
structure IsQ (q : Rq) (e : Ending) : Prop where
  ex : ∃ b, e = .returned (.bool b) ∧ (b = true → q.groups.length ≤ 40)

set_option maxHeartbeats 1000000 in
theorem smallQ_ok (v : Value) (q : Rq) (w : World) (h : RqR w v q) : Calls Try.prog 9 #[v] w fun e w' => IsQ q e ∧ Below w.heap.size w w' := by
  obtain ⟨ag, ng, cg, rfl, hq⟩ := h.ex
  obtain ⟨z0, z2, z3, z4⟩ := h.sz
  clear h
  obtain ⟨x0, L, x2, x3, x4, x5⟩ := q
  simp only at *
  obtain ⟨a', c', e', hr', hc', hl', hx'⟩ := hq
  have hng : ng = L.length := by injection e'
  have hag : ag = a' := by injection e'
  subst hag
  have B : Below w.heap.size w (w.alloc (.cells #[.string x0, .slice ag ng cg, .string x2, .string x3, .string x4, .int .i64 x5] 27)) := alloc_below _ _
  have HR : Hd (RowL (w.alloc (.cells #[.string x0, .slice ag ng cg, .string x2, .string x3, .string x4, .int .i64 x5] 27)) ag L) := ⟨hr'.carry B⟩
  have HX : Hd (∀ k, k < ng → (gt L k).size ≤ 9223372036854775807) := ⟨fun k hk => by rw [gt_eq (by omega)]; exact hx' _ (List.getElem_mem _)⟩
  have HN : Hd (ng = L.length) := ⟨hng⟩
  have HB : Hd (Below w.heap.size w (w.alloc (.cells #[.string x0, .slice ag ng cg, .string x2, .string x3, .string x4, .int .i64 x5] 27))) := ⟨B⟩
  have N0 := Blk.new w 27 #[.string x0, .slice ag ng cg, .string x2, .string x3, .string x4, .int .i64 x5]
  rw [← hng] at hl'
  clear e' hr' hc' hx' hng B
  by_cases g0 : 1000 < x0.size
  · go_enter Try.func9, Try.ntmps9
    go_wp2_with fail
    go_ret
    exact ⟨⟨⟨_, rfl, fun h => nomatch h⟩⟩, HB.out⟩
  by_cases g2 : 1000 < x2.size
  · go_enter Try.func9, Try.ntmps9
    go_wp2_with fail
    go_ret
    exact ⟨⟨⟨_, rfl, fun h => nomatch h⟩⟩, HB.out⟩
  by_cases g3 : 1000 < x3.size
  · go_enter Try.func9, Try.ntmps9
    go_wp2_with fail
    go_ret
    exact ⟨⟨⟨_, rfl, fun h => nomatch h⟩⟩, HB.out⟩
  by_cases g4 : 1000 < x4.size
  · go_enter Try.func9, Try.ntmps9
    go_wp2_with fail
    go_ret
    exact ⟨⟨⟨_, rfl, fun h => nomatch h⟩⟩, HB.out⟩
  by_cases g5 : 40 < ng
  · go_enter Try.func9, Try.ntmps9
    go_wp2_with fail
    go_ret
    exact ⟨⟨⟨_, rfl, fun h => nomatch h⟩⟩, HB.out⟩
  have H5 : Hd (ng ≤ 40) := ⟨by omega⟩
  have d1 := N0.cellv (v := .slice ag ng cg) 1 rfl
  clear N0
  go_enter Try.func9, Try.ntmps9
  go_wp2_with fail
  clear g0 g2 g3 g4 g5
  generalize w.alloc _ = w2 at *
  go_loopw [3] (fun i wr => ∃ k : Nat, k ≤ ng ∧ i = .int .i64 k ∧ wr = w2) (fun i _ => ng - (intOf i).toNat)
  case atStart => exact ⟨0, Nat.zero_le _, rfl, rfl⟩
  case round =>
    obtain ⟨k, hk, rfl, rfl⟩ := hrel
    by_cases hlt : k < ng
    · obtain ⟨b, off, rfl, hb, hc⟩ := HR.out (by have := HN.out; omega)
      have ck := hc k (by have := HN.out; omega)
      have sk := HX.out k hlt
      have HI : Hd (k < ng) := ⟨hlt⟩
      clear hc
      generalize gt L k = y at ck sk
      by_cases g : 1000 < y.size
      · go_wp2_with fail
        go_ret
        exact ⟨⟨⟨_, rfl, fun h => nomatch h⟩⟩, HB.out⟩
      · go_wp2_with fail
        go_roundw
        case rel => exact ⟨k + 1, HI.out, by go_num, (by first | rfl | trivial)⟩
        case measure => have := HI.out; simp [intOf]; omega
    · obtain rfl : k = ng := by omega
      go_wp2_with fail
      go_ret
      exact ⟨⟨⟨_, rfl, fun _ => by have := HN.out; have := H5.out; simp only; omega⟩⟩, HB.out⟩

set_option maxHeartbeats 1000000 in
theorem sameQ_ok (v v' : Value) (q : Rq) (w : World) (h : RqR w v q) (h' : RqR w v' q) : Calls Try.prog 19 #[v, v'] w fun e w' => e = .returned (.bool true) ∧ Below w.heap.size w w' := by
  obtain ⟨ag, ng, cg, rfl, hq⟩ := h.ex
  obtain ⟨bg, mg, dg, rfl, hq'⟩ := h'.ex
  clear h h'
  obtain ⟨x0, L, x2, x3, x4, x5⟩ := q
  simp only at *
  obtain ⟨w2, hw2⟩ : ∃ w2, w2 = (w.alloc (.cells #[.string x0, .slice ag ng cg, .string x2, .string x3, .string x4, .int .i64 x5] 27)).alloc (.cells #[.string x0, .slice bg mg dg, .string x2, .string x3, .string x4, .int .i64 x5] 27) := ⟨_, rfl⟩
  have BX := boxes w 27 27 #[.string x0, .slice ag ng cg, .string x2, .string x3, .string x4, .int .i64 x5] #[.string x0, .slice bg mg dg, .string x2, .string x3, .string x4, .int .i64 x5]
  rw [← hw2] at BX
  obtain ⟨B, N1, N2⟩ := BX
  obtain ⟨a', c', e', hr, hc', hl', hx'⟩ := hq
  have hng : ng = L.length := by injection e'
  have hag : ag = a' := by injection e'
  subst hag
  obtain ⟨a'', c'', e'', hr2, -, -, -⟩ := hq'
  have hmg : mg = L.length := by injection e''
  have hbg : bg = a'' := by injection e''
  subst hbg
  obtain rfl : mg = ng := by omega
  have HW : Hd (∀ W, Below w2.heap.size w2 W → Blk W w.heap.size 27 #[.string x0, .slice ag mg cg, .string x2, .string x3, .string x4, .int .i64 x5] ∧ Blk W (w.heap.size + 1) 27 #[.string x0, .slice bg mg dg, .string x2, .string x3, .string x4, .int .i64 x5] ∧ RowL W ag L ∧ RowL W bg L) :=
    ⟨fun W b => ⟨N1.kept (Kept.of_below b (fun _ => False)) id, N2.kept (Kept.of_below b (fun _ => False)) id, (hr.carry B).carry b, (hr2.carry B).carry b⟩⟩
  have HN : Hd (mg = L.length) := ⟨hng⟩
  have HB : Hd (Below w.heap.size w w2) := ⟨B⟩
  have hl : mg ≤ 9223372036854775807 := by omega
  clear N1 N2 B hr hr2 e' e'' hc' hl' hx' hng hmg
  go_enter Try.func19, Try.ntmps19
  go_wp2_with fail
  rw [← hw2]
  clear hw2
  generalize w.heap.size + 1 = A2 at *
  obtain ⟨A1, hA1⟩ : ∃ A1, A1 = w.heap.size := ⟨_, rfl⟩
  rw [← hA1] at HW ⊢
  clear hA1
  go_loopw [5] (fun i wr => ∃ k : Nat, k ≤ mg ∧ i = .int .i64 k ∧ Below w2.heap.size w2 wr) (fun i _ => mg - (intOf i).toNat)
  case atStart => exact ⟨0, Nat.zero_le _, rfl, Below.refl _ _⟩
  case round =>
    obtain ⟨k, hk, rfl, hbw⟩ := hrel
    obtain ⟨M1, M2, R1, R2⟩ := HW.out wr hbw
    have e1 := M1.cellv (v := .slice ag mg cg) 1 rfl
    have d1 := M2.cellv (v := .slice bg mg dg) 1 rfl
    have HBW : Hd (Below w2.heap.size w2 wr) := ⟨hbw⟩
    clear M1 M2 hbw
    by_cases hlt : k < mg
    · have hkL : k < L.length := by rw [← HN.out]; exact hlt
      obtain ⟨b, off, rfl, hb, hc⟩ := R1 (by omega)
      obtain ⟨b', off', rfl, hb', hc2⟩ := R2 (by omega)
      have ck := hc k hkL
      have ck' := hc2 k hkL
      have HI : Hd (k < mg) := ⟨hlt⟩
      clear hc hc2 R1 R2 hkL hb hb'
      generalize gt L k = y at ck ck'
      go_wp2
      go_quiet (fail)
      go_wp2
      go_roundw
      case rel => exact ⟨k + 1, HI.out, by go_num, HBW.out.trans (Below.mono ⟨rfl, rfl, rfl, Nat.le_refl _, fun _ _ => rfl⟩ HBW.out.size)⟩
      case measure => have := HI.out; simp [intOf]; omega
    · obtain rfl : k = mg := by omega
      clear R1 R2
      go_wp2
      go_ret
      exact ⟨rfl, HB.out.trans (HBW.out.mono HB.out.size)⟩
end Go.Proofs.Ytendblngcbknpaa
