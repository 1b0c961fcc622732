/-
  What tells flows apart: 'Key' of flow; the class of a request that a schema speaks of.
  The first schema that speaks of a request: 'Classify' of flow.
-/
import Derived.Test.YtijjpblmnlednaaGreatDoorE45
import Derived.Test.YtijjpblmnlednaaGreatDoorE18
import Derived.Test.YtijjpblmnlednaaGreatDoorE13
namespace Go.Proofs.YtijjpblmnlednaaGreatDoor
open Go.RowKit
def keyB (n : Int) (q : Rq) : ByteArray := if n = 1 then q.user else if n = 2 then q.space else ⟨#[]⟩
theorem keyB_size {n : Int} {q : Rq} {m : Nat} (h0 : q.user.size ≤ m) (h1 : q.space.size ≤ m) : (keyB n q).size ≤ m := by
  unfold keyB
  by_cases c : n = 1
  · rw [if_pos c]; exact h0
  · rw [if_neg c]
    by_cases d : n = 2
    · rw [if_pos d]; exact h1
    · rw [if_neg d]; exact Nat.zero_le _
theorem keyB_one (n : Int) (q : Rq) : keyB n q = ⟨#[]⟩ ∨ keyB n q = q.user ∨ keyB n q = q.space := by
  unfold keyB
  by_cases c : n = 1
  · rw [if_pos c]; exact .inr (.inl rfl)
  · rw [if_neg c]
    by_cases d : n = 2
    · rw [if_pos d]; exact .inr (.inr rfl)
    · rw [if_neg d]; exact .inl rfl

theorem key_ok {ag : Option Addr} {ng cg : Nat} (n : Int) (q : Rq) (w : World) :
    Calls Tryz.prog 50 #[.int .i64 n, .agg #[.string q.user, .slice ag ng cg, .string q.verb, .string q.resource, .string q.space, .int .i64 q.objects]] w fun e w' => e = .returned (.string (keyB n q)) ∧ Below w.heap.size w w' := by
  obtain ⟨x0, G, x2, x3, x4, x5⟩ := q
  simp only
  have B : Hd (Below w.heap.size w (w.alloc (.cells #[.string x0, .slice ag ng cg, .string x2, .string x3, .string x4, .int .i64 x5] 28))) := ⟨alloc_below _ _⟩
  have N0 := Blk.new w 28 #[.string x0, .slice ag ng cg, .string x2, .string x3, .string x4, .int .i64 x5]
  have d0 := N0.cellv (v := .string x0) 0 rfl
  have d4 := N0.cellv (v := .string x4) 4 rfl
  clear N0
  by_cases h1 : n = 1
  · subst h1
    have K : Hd (keyB 1 ⟨x0, G, x2, x3, x4, x5⟩ = x0) := ⟨rfl⟩
    go_enter Tryz.func50, Tryz.ntmps50
    go_wp2_with fail
    go_ret
    exact ⟨by rw [K.out]; rfl, B.out⟩
  have e1 : (n == 1) = false := by simpa using h1
  by_cases h2 : n = 2
  · subst h2
    have K : Hd (keyB 2 ⟨x0, G, x2, x3, x4, x5⟩ = x4) := ⟨rfl⟩
    clear h1 e1
    go_enter Tryz.func50, Tryz.ntmps50
    go_wp2_with fail
    go_ret
    exact ⟨by rw [K.out]; rfl, B.out⟩
  have e2 : (n == 2) = false := by simpa using h2
  have K : Hd (keyB n ⟨x0, G, x2, x3, x4, x5⟩ = ⟨#[]⟩) := ⟨by unfold keyB; rw [if_neg h1, if_neg h2]⟩
  clear h1 h2
  go_enter Tryz.func50, Tryz.ntmps50
  go_wp2_with fail
  go_ret
  exact ⟨by rw [K.out]; rfl, B.out⟩

/-- Three boxes. -/
theorem boxes3 (w : World) (t1 t2 t3 : Nat) (x y z : Array Value) : Below w.heap.size w (((w.alloc (.cells x t1)).alloc (.cells y t2)).alloc (.cells z t3)) ∧ Blk (((w.alloc (.cells x t1)).alloc (.cells y t2)).alloc (.cells z t3)) w.heap.size t1 x ∧ Blk (((w.alloc (.cells x t1)).alloc (.cells y t2)).alloc (.cells z t3)) (w.heap.size + 1) t2 y ∧ Blk (((w.alloc (.cells x t1)).alloc (.cells y t2)).alloc (.cells z t3)) (w.heap.size + 1 + 1) t3 z := by
  refine ⟨(((Below.refl _ _).alloc (Nat.le_refl _) _).alloc (by simp) _).alloc (by simp; omega) _, ((Blk.new w t1 x).alloc _).alloc _, (alloc_new w _ t2 y).alloc _, ?_⟩
  have := alloc_new (w.alloc (.cells x t1)) (.cells y t2) t3 z
  rw [show (w.alloc (.cells x t1)).heap.size = w.heap.size + 1 from by simp] at this
  exact this
def clC (s l k : ByteArray) (f : Nat) : Array Value := #[.string s, .string l, .string k, .int .u64 f]
def clA (s : Sc) (q : Rq) : Array Value := clC s.name s.level (keyB s.way q) (Fn.flow s.name (keyB s.way q))
def clZ : Array Value := clC ⟨#[]⟩ ⟨#[]⟩ ⟨#[]⟩ 0
/-- A class's four cells, put. -/
theorem four_set {w : World} {g : Nat} {a b c a' b' c' : ByteArray} {d d' : Nat} (h : Blk w g 40 (clC a b c d)) :
    Blk ((((w.setCell ⟨g, 0, none⟩ (.string a')).setCell ⟨g, 1, none⟩ (.string b')).setCell ⟨g, 2, none⟩ (.string c')).setCell ⟨g, 3, none⟩ (.int .u64 d')) g 40 (clC a' b' c' d')
    ∧ Kept (fun k => k = g) w ((((w.setCell ⟨g, 0, none⟩ (.string a')).setCell ⟨g, 1, none⟩ (.string b')).setCell ⟨g, 2, none⟩ (.string c')).setCell ⟨g, 3, none⟩ (.int .u64 d')) := by
  refine ⟨?_, ((((Kept.refl (fun k => k = g) w).setCell _ _ (.inl rfl)).setCell _ _ (.inl rfl)).setCell _ _ (.inl rfl)).setCell _ _ (.inl rfl)⟩
  have := (((h.set 0 (.string a')).set 1 (.string b')).set 2 (.string c')).set 3 (.int .u64 d')
  simpa [clC] using this
theorem Blk.four {w : World} {g : Nat} {a b c : ByteArray} {d : Nat} (h : Blk w g 40 (clC a b c d)) :
    (w.cell? ⟨g, 0, none⟩ = some (.string a) ∧ w.cell? ⟨g, 1, none⟩ = some (.string b) ∧ w.cell? ⟨g, 2, none⟩ = some (.string c) ∧ w.cell? ⟨g, 3, none⟩ = some (.int .u64 d))
    ∧ w.frozen? ⟨g, 0, none⟩ = false ∧ w.frozen? ⟨g, 1, none⟩ = false ∧ w.frozen? ⟨g, 2, none⟩ = false ∧ w.frozen? ⟨g, 3, none⟩ = false :=
  ⟨⟨h.cellv 0 rfl, h.cellv 1 rfl, h.cellv 2 rfl, h.cellv 3 rfl⟩, h.frozen 0, h.frozen 1, h.frozen 2, h.frozen 3⟩
theorem resCls (tmps : Array Value) (w : World) (g : Nat) {a b c : ByteArray} {d : Nat} (ht : tmps[4]?.getD undef = .pointer (some ⟨g, 0, none⟩)) (h : Blk w g 40 (clC a b c d)) :
    (results Tryz.f22 tmps).run Tryz.prog w = .ok (.agg (clC a b c d)) w := by
  obtain ⟨⟨c0, c1, c2, c3⟩, -⟩ := h.four
  simp [results, Tryz.results22, go_sem, ht, c0, c1, c2, c3, clC]

set_option maxRecDepth 20000 in
set_option maxHeartbeats 2000000 in
theorem cls_ok {ag ar : Option Addr} {ng cg nr cr : Nat} {y0 y1 : ByteArray} {y2 y3 : Int} (q : Rq) (w : World) (h0 : y0.size ≤ 9223372036854775807) (hu : q.user.size ≤ 9223372036854775807) (hs : q.space.size ≤ 9223372036854775807) :
    Calls Tryz.prog 22 #[.agg #[.string y0, .string y1, .int .i64 y2, .int .i64 y3, .slice ar nr cr], .agg #[.string q.user, .slice ag ng cg, .string q.verb, .string q.resource, .string q.space, .int .i64 q.objects]] w fun e w' => e = .returned (.agg (clC y0 y1 (keyB y3 q) (Fn.flow y0 (keyB y3 q)))) ∧ Below w.heap.size w w' := by
  obtain ⟨w2, hw2⟩ : ∃ w2, w2 = ((w.alloc (.cells #[.string y0, .string y1, .int .i64 y2, .int .i64 y3, .slice ar nr cr] 53)).alloc (.cells #[.string q.user, .slice ag ng cg, .string q.verb, .string q.resource, .string q.space, .int .i64 q.objects] 28)).alloc (.cells #[.string ⟨#[]⟩, .string ⟨#[]⟩, .string ⟨#[]⟩, .int .u64 0] 40) := ⟨_, rfl⟩
  have BX := boxes3 w 53 28 40 #[.string y0, .string y1, .int .i64 y2, .int .i64 y3, .slice ar nr cr] #[.string q.user, .slice ag ng cg, .string q.verb, .string q.resource, .string q.space, .int .i64 q.objects] #[.string ⟨#[]⟩, .string ⟨#[]⟩, .string ⟨#[]⟩, .int .u64 0]
  rw [← hw2] at BX
  obtain ⟨B, N1, N2, N3⟩ := BX
  have K0 := key_ok (ag := ag) (ng := ng) (cg := cg) y3 q w2
  have hk := keyB_size (n := y3) hu hs
  have HW : Hd (∀ W, Below w2.heap.size w2 W → Blk W w.heap.size 53 #[.string y0, .string y1, .int .i64 y2, .int .i64 y3, .slice ar nr cr] ∧ Blk W (w.heap.size + 1 + 1) 40 clZ) := ⟨fun W b => ⟨N1.kept (Kept.of_below b (fun _ => False)) id, N3.kept (Kept.of_below b (fun _ => False)) id⟩⟩
  have HB : Hd (Below w.heap.size w w2) := ⟨B⟩
  have e3 := N1.cellv (v := .int .i64 y3) 3 rfl
  have d0 := N2.cellv (v := .string q.user) 0 rfl
  have d1 := N2.cellv (v := .slice ag ng cg) 1 rfl
  have d2 := N2.cellv (v := .string q.verb) 2 rfl
  have d3 := N2.cellv (v := .string q.resource) 3 rfl
  have d4 := N2.cellv (v := .string q.space) 4 rfl
  have d5 := N2.cellv (v := .int .i64 q.objects) 5 rfl
  have FL : Hd (∀ W, Calls Tryz.prog 51 #[.string y0, .string (keyB y3 q)] W fun e w' => e = .returned (.int .u64 (Fn.flow y0 (keyB y3 q) : Nat)) ∧ w' = W) := ⟨fun W => Fn.flow_ok y0 (keyB y3 q) h0 hk W⟩
  have LF : Hd (Fn.flow y0 (keyB y3 q) < 18446744073709551616) := ⟨Fn.flow_lt _ _⟩
  clear N1 N2 N3 B h0 hu hs hk
  generalize Fn.flow y0 (keyB y3 q) = f at *
  generalize keyB y3 q = kx at *
  obtain ⟨x0, G, x2, x3, x4, x5⟩ := q
  simp only at *
  go_enter Tryz.func22, Tryz.ntmps22
  go_upto_region 1 with fail
  rw [← hw2]
  clear hw2
  go_upto_region 2 with (go_at_call 50; refine K0.mono ?_; rintro e w3 ⟨rfl, b3⟩)
  obtain ⟨N1, N3⟩ := HW.out w3 b3
  have B3 : Hd (Below w.heap.size w w3) := ⟨HB.out.trans (b3.mono HB.out.size)⟩
  clear e3 d0 d1 d2 d3 d4 d5 K0 HW b3 HB
  have LE : Hd (w.heap.size ≤ w.heap.size + 1 + 1) := ⟨by omega⟩
  generalize w.heap.size + 1 + 1 = A3 at *
  obtain ⟨A1, hA1⟩ : ∃ A1, A1 = w.heap.size := ⟨_, rfl⟩
  have HA : Hd (A1 = w.heap.size) := ⟨hA1⟩
  rw [← hA1] at N1 B3 LE ⊢
  clear hA1
  have N1' : Blk w3.drew A1 53 #[.string y0, .string y1, .int .i64 y2, .int .i64 y3, .slice ar nr cr] := N1
  have N3' : Blk w3.drew A3 40 clZ := N3
  have NE : A1 ≠ A3 := N1.ne N3 (by decide)
  have B3' : Below A1 w w3.drew := B3.out.drew
  clear N1 N3 B3
  refine AnyG.start (T := fun W => Blk W A1 53 #[.string y0, .string y1, .int .i64 y2, .int .i64 y3, .slice ar nr cr]) (U := fun _ => True) (j0 := 100) (by kernel_rfl) ?_
  generalize w3.drew = w0 at *
  have X0 : Hd (∀ W, Blk W A1 53 #[.string y0, .string y1, .int .i64 y2, .int .i64 y3, .slice ar nr cr] → W.cell? ⟨A1, 0, none⟩ = some (.string y0)) := ⟨fun W h => h.cellv 0 rfl⟩
  have X1 : Hd (∀ W, Blk W A1 53 #[.string y0, .string y1, .int .i64 y2, .int .i64 y3, .slice ar nr cr] → W.cell? ⟨A1, 1, none⟩ = some (.string y1)) := ⟨fun W h => h.cellv 1 rfl⟩
  refine .tq 0 10 N1' ?_; simp only [tkA, tkB, tkC]
  refine .tq 1 11 N1' ?_ (hy := fun w hSw => by have s := X0.out w hSw; go_simp; rfl); simp only [tkA, tkB, tkC]
  refine .tq 2 12 N1' ?_; simp only [tkA, tkB, tkC]
  refine .tq 3 13 N1' ?_ (hy := fun w hSw => by have s := X1.out w hSw; go_simp; rfl); simp only [tkA, tkB, tkC]
  refine .tq 4 14 N1' ?_; simp only [tkA, tkB, tkC]
  refine .tq 5 15 N1' ?_; simp only [tkA, tkB, tkC]
  refine .tq 6 16 N1' ?_ (hy := fun w hSw => by have s := X0.out w hSw; go_simp; rfl); simp only [tkA, tkB, tkC]
  refine .tq 7 17 N1' ?_; simp only [tkA, tkB, tkC]
  refine AnyG.ready (rs := [8]) (by kernel_rfl) (by simp) ?_
  refine AllG.cons rfl (fun K hK => ?_) AllG.nil
  go_simp
  refine (FL.out w0).mono ?_
  rintro e wk ⟨rfl, hwk⟩
  obtain rfl := hwk.symm
  refine hK.out _ _ ⟨N1', fun _ => trivial⟩ ?_
  clear hK K FL X0 X1
  refine AnyG.ready (rs := [9]) (by kernel_rfl) (by simp) ?_
  refine AllG.cons rfl (fun K hK => ?_) AllG.nil
  go_simp
  refine hK.out _ _ ⟨N1', fun _ => trivial⟩ ?_
  clear hK K
  obtain ⟨⟨r0, r1, r2, r3⟩, f0, f1, f2, f3⟩ := N3'.four
  obtain ⟨q1, q2⟩ := four_set (a' := y0) (b' := y1) (c' := kx) (d' := f) N3'
  refine AnyG.ready (rs := [10]) (by kernel_rfl) (by simp) ?_
  refine AllG.cons rfl (fun K hK => ?_) AllG.nil
  go_simp
  refine hK.out _ _ ⟨N1'.kept q2 NE, fun _ => trivial⟩ ?_
  clear hK K
  refine AnyG.done (by kernel_rfl) ?_ _
  go_wp2_with fail
  refine bodyPost_ret (resCls _ _ _ rfl q1) rfl ?_
  exact ⟨rfl, by rw [← HA.out]; exact B3'.trans (q2.below (Nat.le_of_lt N1'.lt) (fun k e => by rw [e]; exact LE.out))⟩
def findS (S : List Sc) (q : Rq) : Option Sc := S.find? fun s => schB s.rules q
theorem findS_at : ∀ (S : List Sc) (q : Rq) (k : Nat) (h : k < S.length), schB S[k].rules q = true → (∀ j (hj : j < S.length), j < k → schB S[j].rules q = false) → findS S q = some S[k]
  | l :: r, q, 0, _, e, _ => by
    unfold findS
    rw [List.find?_cons, show schB l.rules q = true from e]
    rfl
  | l :: r, q, k + 1, h, e, hn => by
    unfold findS
    rw [List.find?_cons, show schB l.rules q = false from hn 0 (by simp) (by omega)]
    exact findS_at r q k (by simpa using h) e (fun j hj hjk => hn (j + 1) (by simpa using hj) (by omega))
theorem findS_none (S : List Sc) (q : Rq) (h : ∀ j (hj : j < S.length), schB S[j].rules q = false) : findS S q = none := by
  unfold findS
  rw [List.find?_eq_none]
  intro l hl
  obtain ⟨j, hj, rfl⟩ := List.getElem_of_mem hl
  simp [h j hj]
/-- A place, or -1. -/
def IdS (S : List Sc) (q : Rq) (z : Int) : Prop := (z = -1 ∧ findS S q = none) ∨ ∃ (k : Nat) (h : k < S.length), z = k ∧ findS S q = some S[k]
def clOf (o : Option Sc) (q : Rq) : Array Value := match o with
  | some s => clA s q
  | none => clZ
def erOf (o : Option Sc) : Int := if o.isSome then 0 else 6

/-- Schemas that are read. -/
structure SsR (w : World) (v : Value) (S : List Sc) : Prop where
  ex : ∃ a c V, v = .slice a S.length c ∧ S.length ≤ 9223372036854775807 ∧ V.length = S.length ∧ ScR w a S V ∧ ∀ k (h : k < S.length) (h' : k < V.length), RlR w V[k] S[k].rules
  nm : ∀ s ∈ S, s.name.size ≤ 9223372036854775807 ∧ s.level.size ≤ 9223372036854775807
theorem SsR.carry {w w' : World} {v : Value} {S : List Sc} (h : SsR w v S) (b : Below w.heap.size w w') : SsR w' v S := by
  obtain ⟨a, c, V, e, hl, hV, hS, hR⟩ := h.ex
  exact ⟨⟨a, c, V, e, hl, hV, hS.carry b, fun k h1 h2 => (hR k h1 h2).carry b⟩, h.nm⟩
theorem SsR.at {w : World} {v : Value} {S : List Sc} (h : SsR w v S) : ∃ a c, v = .slice a S.length c ∧ S.length ≤ 9223372036854775807 ∧ ∀ k (hk : k < S.length), ∃ b off, a = some ⟨b, off, none⟩ ∧ b < w.heap.size ∧ ∃ ar nr cr,
    (w.cell? ⟨b, off + k * 5, none⟩ = some (.string S[k].name) ∧ w.cell? ⟨b, off + k * 5 + 1, none⟩ = some (.string S[k].level) ∧ w.cell? ⟨b, off + k * 5 + 2, none⟩ = some (.int .i64 S[k].rank) ∧ w.cell? ⟨b, off + k * 5 + 3, none⟩ = some (.int .i64 S[k].way) ∧ w.cell? ⟨b, off + k * 5 + 4, none⟩ = some (.slice ar nr cr)) ∧ RlR w (.slice ar nr cr) S[k].rules := by
  obtain ⟨a, c, V, rfl, hl, hV, hS, hR⟩ := h.ex
  refine ⟨a, c, rfl, hl, fun k hk => ?_⟩
  obtain ⟨b, off, rfl, hb, hc⟩ := hS (by omega)
  have hk' : k < V.length := by omega
  have hr := hR k hk hk'
  have y := hc k hk hk'
  have y4 : w.cell? ⟨b, off + k * 5 + 4, none⟩ = some V[k] := y 4 (by decide)
  have hr0 := hr
  obtain ⟨ar, cr, e, -⟩ := hr0
  rw [e] at y4 hr
  exact ⟨b, off, rfl, hb, ar, _, cr, ⟨y 0 (by decide), y 1 (by decide), y 2 (by decide), y 3 (by decide), y4⟩, hr⟩

theorem ofS_ok {ar ag : Option Addr} {nr cr ng cg : Nat} {y0 y1 : ByteArray} {y2 y3 : Int} (rs : List Rl) (q : Rq) (g : Nat) (w : World) (hg : Blk w g 28 #[.string q.user, .slice ag ng cg, .string q.verb, .string q.resource, .string q.space, .int .i64 q.objects]) (hv : RlR w (.slice ar nr cr) rs) (hq : LsR w (.slice ag ng cg) q.groups) :
    Calls Tryz.prog 20 #[.agg #[.string y0, .string y1, .int .i64 y2, .int .i64 y3, .slice ar nr cr], .pointer (some ⟨g, 0, none⟩)] w fun e w' => e = .returned (.bool (schB rs q)) ∧ Below w.heap.size w w' := by
  obtain ⟨w2, hw2⟩ : ∃ w2, w2 = w.alloc (.cells #[.string y0, .string y1, .int .i64 y2, .int .i64 y3, .slice ar nr cr] 53) := ⟨_, rfl⟩
  have B : Below w.heap.size w w2 := by rw [hw2]; exact alloc_below _ _
  have N1 : Blk w2 w.heap.size 53 #[.string y0, .string y1, .int .i64 y2, .int .i64 y3, .slice ar nr cr] := by rw [hw2]; exact Blk.new _ _ _
  have N2 := hg.kept (Kept.of_below B (fun _ => False)) id
  have H0 := speak_ok (y0 := y0) (y1 := y1) (y2 := y2) (y3 := y3) rs q w2 (hv.carry B) (hq.carry B)
  have e0 := N1.cellv (v := .string y0) 0 rfl
  have e1 := N1.cellv (v := .string y1) 1 rfl
  have e2 := N1.cellv (v := .int .i64 y2) 2 rfl
  have e3 := N1.cellv (v := .int .i64 y3) 3 rfl
  have e4 := N1.cellv (v := .slice ar nr cr) 4 rfl
  have d0 := N2.cellv (v := .string q.user) 0 rfl
  have d1 := N2.cellv (v := .slice ag ng cg) 1 rfl
  have d2 := N2.cellv (v := .string q.verb) 2 rfl
  have d3 := N2.cellv (v := .string q.resource) 3 rfl
  have d4 := N2.cellv (v := .string q.space) 4 rfl
  have d5 := N2.cellv (v := .int .i64 q.objects) 5 rfl
  have HB : Hd (Below w.heap.size w w2) := ⟨B⟩
  clear N1 N2 hv hq hg B
  generalize schB rs q = b0 at *
  obtain ⟨x0, G, x2, x3, x4, x5⟩ := q
  simp only at *
  go_enter Tryz.func20, Tryz.ntmps20
  go_upto_region 1 with fail
  rw [← hw2]
  clear hw2
  go_wp2_with (go_at_call 21; refine H0.mono ?_; rintro e w3 ⟨rfl, b3⟩)
  go_ret
  exact ⟨rfl, HB.out.trans (b3.mono HB.out.size)⟩

set_option maxHeartbeats 1000000 in
theorem indexS_ok {ag : Option Addr} {ng cg : Nat} (v : Value) (S : List Sc) (q : Rq) (g : Nat) (w : World) (hv : SsR w v S) (hg : Blk w g 28 #[.string q.user, .slice ag ng cg, .string q.verb, .string q.resource, .string q.space, .int .i64 q.objects]) (hq : LsR w (.slice ag ng cg) q.groups) :
    Calls Tryz.prog 19 #[v, .func (.func 20) #[] #[.pointer (some ⟨g, 0, none⟩)]] w fun e w' => (∃ z : Int, e = .returned (.int .i64 z) ∧ IdS S q z) ∧ Below w.heap.size w w' := by
  have eg : ∀ args w, (callFunc 20 args).run Tryz.prog w = .ok (.enter 20 args) w := enters_of Tryz.func20 (by kernel_rfl) rfl
  obtain ⟨a, c, rfl, hl, -⟩ := hv.at
  have HR : Hd (∀ W, Below w.heap.size w W → SsR W (.slice a S.length c) S ∧ Blk W g 28 #[.string q.user, .slice ag ng cg, .string q.verb, .string q.resource, .string q.space, .int .i64 q.objects] ∧ LsR W (.slice ag ng cg) q.groups) := ⟨fun W b => ⟨hv.carry b, hg.kept (Kept.of_below b (fun _ => False)) id, hq.carry b⟩⟩
  clear hv hg hq
  go_enter Tryz.func19, Tryz.ntmps19
  go_wp2_with fail
  go_loopw [8] (fun i wr => ∃ k : Nat, k ≤ S.length ∧ i = .int .i64 k ∧ Hd (∀ j (_ : j < S.length), j < k → schB S[j].rules q = false) ∧ Below w.heap.size w wr) (fun i _ => S.length - (intOf i).toNat)
  case atStart => exact ⟨0, Nat.zero_le _, rfl, ⟨fun j _ h => absurd h (Nat.not_lt_zero _)⟩, Below.refl _ _⟩
  case round =>
    obtain ⟨k, hk, rfl, hno, hb⟩ := hrel
    by_cases hlt : k < S.length
    · obtain ⟨hR, hG, hQ⟩ := HR.out wr hb
      obtain ⟨a', c', e', hl', hR⟩ := hR.at
      obtain ⟨b, off, rfl, hbl, ar, nr, cr, ⟨k0, k1, k2, k3, k4⟩, hr⟩ := hR k hlt
      obtain rfl : a = some ⟨b, off, none⟩ := by injection e'
      have I := ofS_ok (y0 := S[k].name) (y1 := S[k].level) (y2 := S[k].rank) (y3 := S[k].way) S[k].rules q g wr hG hr hQ
      clear hR e' hG hQ hr hbl
      have HI : Hd (k < S.length) := ⟨hlt⟩
      have BB : Hd (Below w.heap.size w wr) := ⟨hb⟩
      have HX : Hd (schB S[k].rules q = true → IdS S q k) := ⟨fun hx => .inr ⟨k, hlt, rfl, findS_at S q k hlt hx hno.out⟩⟩
      have HY : Hd (schB S[k].rules q = false → ∀ j (_ : j < S.length), j < k + 1 → schB S[j].rules q = false) := ⟨fun hx j hj hjk => by
        rcases Nat.lt_or_eq_of_le (Nat.le_of_lt_succ hjk) with h1 | h1
        · exact hno.out j hj h1
        · subst h1; exact hx⟩
      clear hno hb
      generalize schB S[k].rules q = bk at *
      generalize S[k].name = s0 at *
      generalize S[k].level = s1 at *
      generalize S[k].rank = s2 at *
      generalize S[k].way = s3 at *
      cases bk with
      | true =>
        have A : Hd (IdS S q k) := ⟨HX.out rfl⟩
        clear HX HY
        go_wp2_with (go_at_fn 20; refine I.mono ?_; rintro e w2 ⟨rfl, h2⟩)
        go_ret
        exact ⟨⟨k, rfl, A.out⟩, BB.out.trans (h2.mono BB.out.size)⟩
      | false =>
        have A : Hd (∀ j (_ : j < S.length), j < k + 1 → schB S[j].rules q = false) := ⟨HY.out rfl⟩
        clear HX HY
        go_wp2_with (go_at_fn 20; refine I.mono ?_; rintro e w2 ⟨rfl, h2⟩)
        go_roundw
        case rel => exact ⟨k + 1, HI.out, by go_num, A, BB.out.trans (h2.mono BB.out.size)⟩
        case measure => have := HI.out; simp [intOf]; omega
    · obtain rfl : k = S.length := by omega
      have A : Hd (IdS S q (-1)) := ⟨.inl ⟨rfl, findS_none S q fun j hj => hno.out j hj hj⟩⟩
      clear hno
      go_wp2_with fail
      go_ret
      exact ⟨⟨-1, rfl, A.out⟩, hb⟩
end Go.Proofs.YtijjpblmnlednaaGreatDoor
