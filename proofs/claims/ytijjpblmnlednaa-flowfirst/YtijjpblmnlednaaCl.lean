/-
  The first schema that speaks of a request: 'Classify' of flow. Condition: schemas and request lie in memory.
-/
import Derived.Test.YtijjpblmnlednaaKy
namespace Go.Proofs.Ytijjpblmnlednaa
open Go.RowKit

def findS (S : List Sc) (q : Rq) : Option Sc := S.find? fun s => schB s.rules q
theorem findS_at : ∀ (S : List Sc) (q : Rq) (k : Nat) (h : k < S.length), schB S[k].rules q = true → (∀ j (hj : j < S.length), j < k → schB S[j].rules q = false) → findS S q = some S[k]
  | l :: r, q, 0, _, e, _ => by
    unfold findS
    rw [List.find?_cons, show schB l.rules q = true from e]
    rfl
  | l :: r, q, k + 1, h, e, hn => by
    unfold findS
    rw [List.find?_cons, show schB l.rules q = false from hn 0 (by simp) (by omega)]
    exact findS_at r q k (by simpa using h) e (fun j hj hjk => hn (j + 1) (by simpa using hj) (by omega))
theorem findS_none (S : List Sc) (q : Rq) (h : ∀ j (hj : j < S.length), schB S[j].rules q = false) : findS S q = none := by
  unfold findS
  rw [List.find?_eq_none]
  intro l hl
  obtain ⟨j, hj, rfl⟩ := List.getElem_of_mem hl
  simp [h j hj]
/-- A place, or -1. -/
def IdS (S : List Sc) (q : Rq) (z : Int) : Prop := (z = -1 ∧ findS S q = none) ∨ ∃ (k : Nat) (h : k < S.length), z = k ∧ findS S q = some S[k]
def clOf (o : Option Sc) (q : Rq) : Array Value := match o with
  | some s => clA s q
  | none => clZ
def erOf (o : Option Sc) : Int := if o.isSome then 0 else 6

/-- Schemas that are read. -/
structure SsR (w : World) (v : Value) (S : List Sc) : Prop where
  ex : ∃ a c V, v = .slice a S.length c ∧ S.length ≤ 9223372036854775807 ∧ V.length = S.length ∧ ScR w a S V ∧ ∀ k (h : k < S.length) (h' : k < V.length), RlR w V[k] S[k].rules
  nm : ∀ s ∈ S, s.name.size ≤ 9223372036854775807 ∧ s.level.size ≤ 9223372036854775807
theorem SsR.carry {w w' : World} {v : Value} {S : List Sc} (h : SsR w v S) (b : Below w.heap.size w w') : SsR w' v S := by
  obtain ⟨a, c, V, e, hl, hV, hS, hR⟩ := h.ex
  exact ⟨⟨a, c, V, e, hl, hV, hS.carry b, fun k h1 h2 => (hR k h1 h2).carry b⟩, h.nm⟩
theorem SsR.at {w : World} {v : Value} {S : List Sc} (h : SsR w v S) : ∃ a c, v = .slice a S.length c ∧ S.length ≤ 9223372036854775807 ∧ ∀ k (hk : k < S.length), ∃ b off, a = some ⟨b, off, none⟩ ∧ b < w.heap.size ∧ ∃ ar nr cr,
    (w.cell? ⟨b, off + k * 5, none⟩ = some (.string S[k].name) ∧ w.cell? ⟨b, off + k * 5 + 1, none⟩ = some (.string S[k].level) ∧ w.cell? ⟨b, off + k * 5 + 2, none⟩ = some (.int .i64 S[k].rank) ∧ w.cell? ⟨b, off + k * 5 + 3, none⟩ = some (.int .i64 S[k].way) ∧ w.cell? ⟨b, off + k * 5 + 4, none⟩ = some (.slice ar nr cr)) ∧ RlR w (.slice ar nr cr) S[k].rules := by
  obtain ⟨a, c, V, rfl, hl, hV, hS, hR⟩ := h.ex
  refine ⟨a, c, rfl, hl, fun k hk => ?_⟩
  obtain ⟨b, off, rfl, hb, hc⟩ := hS (by omega)
  have hk' : k < V.length := by omega
  have hr := hR k hk hk'
  have y := hc k hk hk'
  have y4 : w.cell? ⟨b, off + k * 5 + 4, none⟩ = some V[k] := y 4 (by decide)
  have hr0 := hr
  obtain ⟨ar, cr, e, -⟩ := hr0
  rw [e] at y4 hr
  exact ⟨b, off, rfl, hb, ar, _, cr, ⟨y 0 (by decide), y 1 (by decide), y 2 (by decide), y 3 (by decide), y4⟩, hr⟩

theorem ofS_ok {ar ag : Option Addr} {nr cr ng cg : Nat} {y0 y1 : ByteArray} {y2 y3 : Int} (rs : List Rl) (q : Rq) (g : Nat) (w : World) (hg : Blk w g 25 #[.string q.user, .slice ag ng cg, .string q.verb, .string q.resource, .string q.space, .int .i64 q.objects]) (hv : RlR w (.slice ar nr cr) rs) (hq : LsR w (.slice ag ng cg) q.groups) :
    Calls Try.prog 16 #[.agg #[.string y0, .string y1, .int .i64 y2, .int .i64 y3, .slice ar nr cr], .pointer (some ⟨g, 0, none⟩)] w fun e w' => e = .returned (.bool (schB rs q)) ∧ Below w.heap.size w w' := by
  obtain ⟨w2, hw2⟩ : ∃ w2, w2 = w.alloc (.cells #[.string y0, .string y1, .int .i64 y2, .int .i64 y3, .slice ar nr cr] 46) := ⟨_, rfl⟩
  have B : Below w.heap.size w w2 := by rw [hw2]; exact alloc_below _ _
  have N1 : Blk w2 w.heap.size 46 #[.string y0, .string y1, .int .i64 y2, .int .i64 y3, .slice ar nr cr] := by rw [hw2]; exact Blk.new _ _ _
  have N2 := hg.kept (Kept.of_below B (fun _ => False)) id
  have H0 := schema_ok (y0 := y0) (y1 := y1) (y2 := y2) (y3 := y3) rs q w2 (hv.carry B) (hq.carry B)
  have e0 := N1.cellv (v := .string y0) 0 rfl
  have e1 := N1.cellv (v := .string y1) 1 rfl
  have e2 := N1.cellv (v := .int .i64 y2) 2 rfl
  have e3 := N1.cellv (v := .int .i64 y3) 3 rfl
  have e4 := N1.cellv (v := .slice ar nr cr) 4 rfl
  have d0 := N2.cellv (v := .string q.user) 0 rfl
  have d1 := N2.cellv (v := .slice ag ng cg) 1 rfl
  have d2 := N2.cellv (v := .string q.verb) 2 rfl
  have d3 := N2.cellv (v := .string q.resource) 3 rfl
  have d4 := N2.cellv (v := .string q.space) 4 rfl
  have d5 := N2.cellv (v := .int .i64 q.objects) 5 rfl
  have HB : Hd (Below w.heap.size w w2) := ⟨B⟩
  clear N1 N2 hv hq hg B
  generalize schB rs q = b0 at *
  obtain ⟨x0, G, x2, x3, x4, x5⟩ := q
  simp only at *
  go_enter Try.func16, Try.ntmps16
  go_upto_region 1 with fail
  rw [← hw2]
  clear hw2
  go_wp2_with (go_at_call 12; refine H0.mono ?_; rintro e w3 ⟨rfl, b3⟩)
  go_ret
  exact ⟨rfl, HB.out.trans (b3.mono HB.out.size)⟩

set_option maxHeartbeats 1000000 in
theorem indexS_ok {ag : Option Addr} {ng cg : Nat} (v : Value) (S : List Sc) (q : Rq) (g : Nat) (w : World) (hv : SsR w v S) (hg : Blk w g 25 #[.string q.user, .slice ag ng cg, .string q.verb, .string q.resource, .string q.space, .int .i64 q.objects]) (hq : LsR w (.slice ag ng cg) q.groups) :
    Calls Try.prog 15 #[v, .func (.func 16) #[] #[.pointer (some ⟨g, 0, none⟩)]] w fun e w' => (∃ z : Int, e = .returned (.int .i64 z) ∧ IdS S q z) ∧ Below w.heap.size w w' := by
  have eg : ∀ args w, (callFunc 16 args).run Try.prog w = .ok (.enter 16 args) w := enters_of Try.func16 (by kernel_rfl) rfl
  obtain ⟨a, c, rfl, hl, -⟩ := hv.at
  have HR : Hd (∀ W, Below w.heap.size w W → SsR W (.slice a S.length c) S ∧ Blk W g 25 #[.string q.user, .slice ag ng cg, .string q.verb, .string q.resource, .string q.space, .int .i64 q.objects] ∧ LsR W (.slice ag ng cg) q.groups) := ⟨fun W b => ⟨hv.carry b, hg.kept (Kept.of_below b (fun _ => False)) id, hq.carry b⟩⟩
  clear hv hg hq
  go_enter Try.func15, Try.ntmps15
  go_wp2_with fail
  go_loopw [8] (fun i wr => ∃ k : Nat, k ≤ S.length ∧ i = .int .i64 k ∧ Hd (∀ j (_ : j < S.length), j < k → schB S[j].rules q = false) ∧ Below w.heap.size w wr) (fun i _ => S.length - (intOf i).toNat)
  case atStart => exact ⟨0, Nat.zero_le _, rfl, ⟨fun j _ h => absurd h (Nat.not_lt_zero _)⟩, Below.refl _ _⟩
  case round =>
    obtain ⟨k, hk, rfl, hno, hb⟩ := hrel
    by_cases hlt : k < S.length
    · obtain ⟨hR, hG, hQ⟩ := HR.out wr hb
      obtain ⟨a', c', e', hl', hR⟩ := hR.at
      obtain ⟨b, off, rfl, hbl, ar, nr, cr, ⟨k0, k1, k2, k3, k4⟩, hr⟩ := hR k hlt
      obtain rfl : a = some ⟨b, off, none⟩ := by injection e'
      have I := ofS_ok (y0 := S[k].name) (y1 := S[k].level) (y2 := S[k].rank) (y3 := S[k].way) S[k].rules q g wr hG hr hQ
      clear hR e' hG hQ hr hbl
      have HI : Hd (k < S.length) := ⟨hlt⟩
      have BB : Hd (Below w.heap.size w wr) := ⟨hb⟩
      have HX : Hd (schB S[k].rules q = true → IdS S q k) := ⟨fun hx => .inr ⟨k, hlt, rfl, findS_at S q k hlt hx hno.out⟩⟩
      have HY : Hd (schB S[k].rules q = false → ∀ j (_ : j < S.length), j < k + 1 → schB S[j].rules q = false) := ⟨fun hx j hj hjk => by
        rcases Nat.lt_or_eq_of_le (Nat.le_of_lt_succ hjk) with h1 | h1
        · exact hno.out j hj h1
        · subst h1; exact hx⟩
      clear hno hb
      generalize schB S[k].rules q = bk at *
      generalize S[k].name = s0 at *
      generalize S[k].level = s1 at *
      generalize S[k].rank = s2 at *
      generalize S[k].way = s3 at *
      cases bk with
      | true =>
        have A : Hd (IdS S q k) := ⟨HX.out rfl⟩
        clear HX HY
        go_wp2_with (go_at_fn 16; refine I.mono ?_; rintro e w2 ⟨rfl, h2⟩)
        go_ret
        exact ⟨⟨k, rfl, A.out⟩, BB.out.trans (h2.mono BB.out.size)⟩
      | false =>
        have A : Hd (∀ j (_ : j < S.length), j < k + 1 → schB S[j].rules q = false) := ⟨HY.out rfl⟩
        clear HX HY
        go_wp2_with (go_at_fn 16; refine I.mono ?_; rintro e w2 ⟨rfl, h2⟩)
        go_roundw
        case rel => exact ⟨k + 1, HI.out, by go_num, A, BB.out.trans (h2.mono BB.out.size)⟩
        case measure => have := HI.out; simp [intOf]; omega
    · obtain rfl : k = S.length := by omega
      have A : Hd (IdS S q (-1)) := ⟨.inl ⟨rfl, findS_none S q fun j hj => hno.out j hj hj⟩⟩
      clear hno
      go_wp2_with fail
      go_ret
      exact ⟨⟨-1, rfl, A.out⟩, hb⟩

end Go.Proofs.Ytijjpblmnlednaa
