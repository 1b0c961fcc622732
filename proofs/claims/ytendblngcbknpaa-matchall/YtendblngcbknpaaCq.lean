/-
  'Copy' of the reference: a request in memory of its own. Condition: it lies in memory, and has no more than 1000 groups.
-/
import Derived.Test.YtendblngcbknpaaSq
import Derived.Test.YtendblngcbknpaaOwn
namespace Go.Proofs.Ytendblngcbknpaa
open Go.RowKit

structure FQ (w : World) (q : Rq) (e : Ending) (w' : World) : Prop where
  ex : ∃ a n c, e = .returned (.agg #[.string q.user, .slice a n c, .string q.verb, .string q.resource, .string q.space, .int .i64 q.objects]) ∧ OwnT w.heap.size w' (.slice a n c) q.groups
  bel : Below w.heap.size w w'
theorem res11 (tmps : Array Value) (w : World) (r0 : Nat) (v0 v1 v2 v3 v4 v5 : Value) (ht : tmps[2]?.getD undef = .pointer (some ⟨r0, 0, none⟩)) (h : Blk w r0 27 #[v0, v1, v2, v3, v4, v5]) :
    (results Try.f11 tmps).run Try.prog w = .ok (.agg #[v0, v1, v2, v3, v4, v5]) w := by
  have c0 := h.cellv 0 rfl
  have c1 := h.cellv 1 rfl
  have c2 := h.cellv 2 rfl
  have c3 := h.cellv 3 rfl
  have c4 := h.cellv 4 rfl
  have c5 := h.cellv 5 rfl
  simp at c0 c1 c2 c3 c4 c5
  simp [results, Try.results11, go_sem, ht, c0, c1, c2, c3, c4, c5]
theorem six_setQ {w : World} {g : Nat} {z0 z1 z2 z3 z4 z5 : Value} (h : Blk w g 27 #[z0, z1, z2, z3, z4, z5]) (v0 v1 v2 v3 v4 v5 : Value) :
    Blk ((((((w.setCell ⟨g, 0, none⟩ v0).setCell ⟨g, 1, none⟩ v1).setCell ⟨g, 2, none⟩ v2).setCell ⟨g, 3, none⟩ v3).setCell ⟨g, 4, none⟩ v4).setCell ⟨g, 5, none⟩ v5) g 27 #[v0, v1, v2, v3, v4, v5]
    ∧ Kept (fun k => k = g) w ((((((w.setCell ⟨g, 0, none⟩ v0).setCell ⟨g, 1, none⟩ v1).setCell ⟨g, 2, none⟩ v2).setCell ⟨g, 3, none⟩ v3).setCell ⟨g, 4, none⟩ v4).setCell ⟨g, 5, none⟩ v5) := by
  refine ⟨?_, ((((((Kept.refl (fun k => k = g) w).setCell _ _ (.inl rfl)).setCell _ _ (.inl rfl)).setCell _ _ (.inl rfl)).setCell _ _ (.inl rfl)).setCell _ _ (.inl rfl)).setCell _ _ (.inl rfl)⟩
  have := (((((h.set 0 v0).set 1 v1).set 2 v2).set 3 v3).set 4 v4).set 5 v5
  simpa using this
/-- An empty row of texts. -/
theorem own_new (w : World) : (w.alloc (.cells #[] 9)).ownsRow w.heap.size 9 1 (.slice (some ⟨w.heap.size, 0, none⟩) 0 0) 0 [] := ⟨by simp, .inr ⟨w.heap.size, 0, #[], rfl, Nat.le_refl _, Blk.new w 9 #[], Nat.le_refl _, Nat.zero_le _, by simp, by simp⟩⟩
theorem row_new {w : World} {ad : Addr} {L : List ByteArray} (hr : RowL w (some ad) L) : ∀ j u, (L.map Value.string)[j]? = some u → (w.alloc (.cells #[] 9)).cell? (ad.add j) = some u := fun j u hu => by
  have hr1 := hr.carry (alloc_below w (.cells #[] 9))
  rw [List.getElem?_map] at hu
  by_cases hj : j < L.length
  · obtain ⟨b, off, e, hb, hcs⟩ := hr1 (by omega)
    injection e with e
    subst e
    rw [List.getElem?_eq_getElem hj] at hu
    have q := hcs j hj
    rw [gt_eq hj] at q
    rw [Go.WideShapes.add_plain, q]
    exact hu
  · rw [List.getElem?_eq_none (by omega)] at hu
    cases hu
theorem row_one (L : List ByteArray) : ∀ u ∈ L.map Value.string, u.oneCell' = true := fun u hu => by
  obtain ⟨x, _, rfl⟩ := List.mem_map.1 hu
  rfl
theorem row_nil {w : World} {L : List ByteArray} (hr : RowL w none L) : L = [] := by
  cases L with
  | nil => rfl
  | cons x r => obtain ⟨b, off, e, _⟩ := hr (by simp); cases e

/-- The copy's groups are laid: what is known then. -/
structure Cq (w W : World) (A1 A2 : Nat) (x0 x2 x3 x4 : ByteArray) (x5 : Int) (a : Option Addr) (n c : Nat) (L : List ByteArray) : Prop where
  bel : Below w.heap.size w W
  b1 : Blk W A1 27 #[.string x0, .slice a n c, .string x2, .string x3, .string x4, .int .i64 x5]
  b2 : Blk W A2 27 #[.string ⟨#[]⟩, .slice none 0 0, .string ⟨#[]⟩, .string ⟨#[]⟩, .string ⟨#[]⟩, .int .i64 0]
  own : OwnT w.heap.size W (.slice a n c) L
theorem Cq.of {w w1 W : World} {A1 A2 : Nat} {x0 x2 x3 x4 : ByteArray} {x5 : Int} {v1 : Value} {a : Option Addr} {n c : Nat} {L : List ByteArray} (B : Below w.heap.size w w1) (h1 : Blk w1 A1 27 #[.string x0, v1, .string x2, .string x3, .string x4, .int .i64 x5]) (h2 : Blk w1 A2 27 #[.string ⟨#[]⟩, .slice none 0 0, .string ⟨#[]⟩, .string ⟨#[]⟩, .string ⟨#[]⟩, .int .i64 0]) (hA : w.heap.size ≤ A1) (hne : A1 ≠ A2) (b : Below w1.heap.size w1 W) (ho : OwnT w1.heap.size W (.slice a n c) L) :
    Cq w (W.setCell ⟨A1, 1, none⟩ (.slice a n c)) A1 A2 x0 x2 x3 x4 x5 a n c L := by
  have M1 := h1.kept (Kept.of_below b (fun _ => False)) id
  have M2 := h2.kept (Kept.of_below b (fun _ => False)) id
  have KS : Kept (fun k => k = A1) W (W.setCell ⟨A1, 1, none⟩ (.slice a n c)) := (Kept.refl (fun k => k = A1) W).setCell _ _ (.inl rfl)
  have bl : Below w.heap.size w W := B.trans (b.mono B.size)
  refine ⟨bl.trans (KS.below bl.size (fun k hk => by rw [hk]; exact hA)), ?_, M2.kept KS (fun e => hne e.symm), (ho.off KS (off_blk M1 (by decide))).mono B.size⟩
  have := M1.set 1 (.slice a n c)
  simpa using this

set_option maxHeartbeats 2000000 in
theorem copyQ_ok (v : Value) (q : Rq) (w : World) (h : RqR w v q) (h8 : q.groups.length ≤ 1000) : Calls Try.prog 11 #[v] w fun e w' => FQ w q e w' := by
  obtain ⟨ag, ng, cg, rfl, hq⟩ := h.ex
  have hsz := h.sz
  clear h
  obtain ⟨x0, L, x2, x3, x4, x5⟩ := q
  simp only at *
  obtain ⟨w1, hw1⟩ : ∃ w1, w1 = (w.alloc (.cells #[.string x0, .slice ag ng cg, .string x2, .string x3, .string x4, .int .i64 x5] 27)).alloc (.cells #[.string ⟨#[]⟩, .slice none 0 0, .string ⟨#[]⟩, .string ⟨#[]⟩, .string ⟨#[]⟩, .int .i64 0] 27) := ⟨_, rfl⟩
  have BX := boxes w 27 27 #[.string x0, .slice ag ng cg, .string x2, .string x3, .string x4, .int .i64 x5] #[.string ⟨#[]⟩, .slice none 0 0, .string ⟨#[]⟩, .string ⟨#[]⟩, .string ⟨#[]⟩, .int .i64 0]
  rw [← hw1] at BX
  obtain ⟨B, N1, N2⟩ := BX
  obtain ⟨a', c', e', hr', hc', hl', hx'⟩ := hq
  have hng : ng = L.length := by injection e'
  have hag : ag = a' := by injection e'
  subst hag
  have HR : Hd (RowL w1 ag L) := ⟨hr'.carry B⟩
  have HN : Hd (ng = L.length) := ⟨hng⟩
  have HL : Hd (L.length ≤ 1000) := ⟨h8⟩
  have HF : Hd (∀ W a n c, Cq w W w.heap.size (w.heap.size + 1) x0 x2 x3 x4 x5 a n c L → ∀ W', Kept (fun k => k = w.heap.size + 1) W W' → FQ w ⟨x0, L, x2, x3, x4, x5⟩ (.returned (.agg #[.string x0, .slice a n c, .string x2, .string x3, .string x4, .int .i64 x5])) W') :=
    ⟨fun W a n c hc W' k => ⟨⟨a, n, c, rfl, hc.own.off k (off_blk hc.b2 (by decide))⟩, hc.bel.trans (k.below hc.bel.size (fun j hj => by omega))⟩⟩
  have HC : Hd (∀ W a n c, Below w1.heap.size w1 W → OwnT w1.heap.size W (.slice a n c) L → Cq w (W.setCell ⟨w.heap.size, 1, none⟩ (.slice a n c)) w.heap.size (w.heap.size + 1) x0 x2 x3 x4 x5 a n c L) :=
    ⟨fun W a n c b ho => Cq.of B N1 N2 (Nat.le_refl _) (by omega) b ho⟩
  have HP : Hd (∀ W, Below w1.heap.size w1 W → W.cell? ⟨w.heap.size, 1, none⟩ = some (.slice ag ng cg) ∧ W.frozen? ⟨w.heap.size, 1, none⟩ = false) := ⟨fun W b => ⟨(N1.kept (Kept.of_below b (fun _ => False)) id).cellv 1 rfl, (N1.kept (Kept.of_below b (fun _ => False)) id).frozen 1⟩⟩
  obtain ⟨p1, -⟩ := HP.out (w1.alloc (.cells #[] 9)) (alloc_below _ _)
  obtain ⟨i0, hi, hz0, hz1, hz2⟩ := info_parts info9
  have own0 := own_new w1
  have gz : w1.heap.size ≤ (w1.alloc (.cells #[] 9)).heap.size := (alloc_below w1 _).size
  clear N1 N2 B hr' hc' hl' hx' e' hsz hng h8
  go_enter Try.func11, Try.ntmps11
  go_upto_region 1 with fail
  rw [← hw1]
  clear hw1
  cases ag with
  | none =>
    have E := row_nil HR.out
    subst E
    have C5 : Hd _ := ⟨HC.out (w1.alloc (.cells #[] 9)) (some ⟨w1.heap.size, 0, none⟩) 0 0 (alloc_below _ _) (own_new w1)⟩
    obtain ⟨p2, p3⟩ := HP.out (w1.alloc (.cells #[] 9)) (alloc_below _ _)
    have e0 : ng = 0 := HN.out
    subst e0
    clear HC HP HR HN HL gz
    go_upto_region 2 with (at_builtin; refine wpList_append_own_none rfl _ _ 25 rfl w1.heap.size 9 i0 1 Try.underlying25 hi _ _ _ rfl own0 rfl ?_)
    clear p2 p3 p1 own0
    generalize World.setCell _ _ _ = W5 at *
    have e0 := C5.out.b1.cellv (v := .string x0) 0 rfl
    have e1 := C5.out.b1.cellv (v := .slice (some ⟨w1.heap.size, 0, none⟩) 0 0) 1 rfl
    have e2 := C5.out.b1.cellv (v := .string x2) 2 rfl
    have e3 := C5.out.b1.cellv (v := .string x3) 3 rfl
    have e4 := C5.out.b1.cellv (v := .string x4) 4 rfl
    have e5 := C5.out.b1.cellv (v := .int .i64 x5) 5 rfl
    have d0 := C5.out.b2.cellv (v := .string ⟨#[]⟩) 0 rfl
    have d1 := C5.out.b2.cellv (v := .slice none 0 0) 1 rfl
    have d2 := C5.out.b2.cellv (v := .string ⟨#[]⟩) 2 rfl
    have d3 := C5.out.b2.cellv (v := .string ⟨#[]⟩) 3 rfl
    have d4 := C5.out.b2.cellv (v := .string ⟨#[]⟩) 4 rfl
    have d5 := C5.out.b2.cellv (v := .int .i64 0) 5 rfl
    have f0 := C5.out.b2.frozen 0
    have f1 := C5.out.b2.frozen 1
    have f2 := C5.out.b2.frozen 2
    have f3 := C5.out.b2.frozen 3
    have f4 := C5.out.b2.frozen 4
    have f5 := C5.out.b2.frozen 5
    have M : Hd _ := ⟨six_setQ C5.out.b2 (.string x0) (.slice (some ⟨w1.heap.size, 0, none⟩) 0 0) (.string x2) (.string x3) (.string x4) (.int .i64 x5)⟩
    go_wp2_with fail
    exact bodyPost_ret (res11 _ _ (w.heap.size + 1) _ _ _ _ _ _ rfl M.out.1) rfl (HF.out _ _ _ _ C5.out _ M.out.2)
  | some ad =>
    have NW := row_new HR.out
    have O1 := row_one L
    go_upto_region 2 with (at_builtin; go_loud (refine wpList_append_own _ rfl _ _ 25 rfl w1.heap.size 9 i0 (.string ByteArray.empty) 1 16 Try.underlying25 hi hz0 hz1 hz2 rfl (by decide) _ _ _ rfl own0 ad ng cg (L.map Value.string) rfl (by rw [List.length_map, HN.out, Nat.mul_one]) NW O1 (by have := HL.out; have := HN.out; unfold maxLen; omega) (by have := HL.out; have := HN.out; omega) gz ?_; intro v' w' hown hgr _; have bW : Below w1.heap.size w1 w' := (alloc_below w1 _).grown hgr gz (fun x hx => Nat.le_of_eq (Option.some.inj hx)); have ho : OwnT w1.heap.size w' v' L := (by unfold OwnT; have e := HN.out; subst e; simpa using hown); obtain ⟨a2, c2, e2, -⟩ := ho.shape; subst e2; obtain ⟨p2, p3⟩ := HP.out w' bW; have C5 : Hd _ := ⟨HC.out w' a2 L.length c2 bW ho⟩; clear hown hgr bW ho NW O1 p1 own0 gz HC HP HR))
    generalize World.setCell _ _ _ = W5 at *
    have e0 := C5.out.b1.cellv (v := .string x0) 0 rfl
    have e1 := C5.out.b1.cellv (v := .slice a2 L.length c2) 1 rfl
    have e2 := C5.out.b1.cellv (v := .string x2) 2 rfl
    have e3 := C5.out.b1.cellv (v := .string x3) 3 rfl
    have e4 := C5.out.b1.cellv (v := .string x4) 4 rfl
    have e5 := C5.out.b1.cellv (v := .int .i64 x5) 5 rfl
    have d0 := C5.out.b2.cellv (v := .string ⟨#[]⟩) 0 rfl
    have d1 := C5.out.b2.cellv (v := .slice none 0 0) 1 rfl
    have d2 := C5.out.b2.cellv (v := .string ⟨#[]⟩) 2 rfl
    have d3 := C5.out.b2.cellv (v := .string ⟨#[]⟩) 3 rfl
    have d4 := C5.out.b2.cellv (v := .string ⟨#[]⟩) 4 rfl
    have d5 := C5.out.b2.cellv (v := .int .i64 0) 5 rfl
    have f0 := C5.out.b2.frozen 0
    have f1 := C5.out.b2.frozen 1
    have f2 := C5.out.b2.frozen 2
    have f3 := C5.out.b2.frozen 3
    have f4 := C5.out.b2.frozen 4
    have f5 := C5.out.b2.frozen 5
    have M : Hd _ := ⟨six_setQ C5.out.b2 (.string x0) (.slice a2 L.length c2) (.string x2) (.string x3) (.string x4) (.int .i64 x5)⟩
    go_wp2_with fail
    exact bodyPost_ret (res11 _ _ (w.heap.size + 1) _ _ _ _ _ _ rfl M.out.1) rfl (HF.out _ _ _ _ C5.out _ M.out.2)
end Go.Proofs.Ytendblngcbknpaa
