/-
  Whether two requests, two events are the same, as the program tells. Condition: what is compared lies in memory.
-/
import Derived.Test.YtooaojegdhamjaaDoorEvJ
namespace Go.Proofs.YtooaojegdhamjaaDoor
open Go.RowKit Go.Lib

def smQ (e f : Ev) : Bool := decide (e.u = f.u ∧ e.g = f.g ∧ e.v = f.v ∧ e.r = f.r ∧ e.s = f.s ∧ e.o = f.o)
theorem smE_split (e f : Ev) : smE e f = decide (e.k = f.k ∧ e.i = f.i ∧ e.n = f.n ∧ e.t = f.t ∧ smQ e f = true) := by
  unfold smE smQ
  refine decide_eq_decide.2 ⟨?_, ?_⟩
  · rintro ⟨h1, h2, h3, h4, h5, h6, h7, h8, h9, h10⟩; exact ⟨h1, h2, h3, h10, decide_eq_true ⟨h4, h5, h6, h7, h8, h9⟩⟩
  · rintro ⟨h1, h2, h3, h10, h⟩
    obtain ⟨h4, h5, h6, h7, h8, h9⟩ := of_decide_eq_true h
    exact ⟨h1, h2, h3, h4, h5, h6, h7, h8, h9, h10⟩

set_option maxHeartbeats 4000000 in
set_option maxRecDepth 20000 in
theorem sameq_ok (e f : Ev) (a b : Option Addr) (c1 c2 : Nat) (w : World) (h1 : RowL w a e.g) (h2 : RowL w b f.g) (hn : e.g.length ≤ 9223372036854775807) :
    Calls Tryd.prog 25 #[.agg #[.string e.u, .slice a e.g.length c1, .string e.v, .string e.r, .string e.s, .int .i64 e.o], .agg #[.string f.u, .slice b f.g.length c2, .string f.v, .string f.r, .string f.s, .int .i64 f.o]] w fun q w' => q = .returned (.bool (smQ e f)) ∧ Below w.heap.size w w' := by
  obtain ⟨w1, hw1⟩ : ∃ w1, w1 = (w.alloc (.cells #[.string e.u, .slice a e.g.length c1, .string e.v, .string e.r, .string e.s, .int .i64 e.o] 24)).alloc (.cells #[.string f.u, .slice b f.g.length c2, .string f.v, .string f.r, .string f.s, .int .i64 f.o] 24) := ⟨_, rfl⟩
  obtain ⟨b1, n1, n2⟩ := boxes w 24 24 #[.string e.u, .slice a e.g.length c1, .string e.v, .string e.r, .string e.s, .int .i64 e.o] #[.string f.u, .slice b f.g.length c2, .string f.v, .string f.r, .string f.s, .int .i64 f.o]
  rw [← hw1] at b1 n1 n2
  have hsz : (w.alloc (.cells #[.string e.u, .slice a e.g.length c1, .string e.v, .string e.r, .string e.s, .int .i64 e.o] 24)).heap.size = w.heap.size + 1 := by simp
  have X : Hd (∀ W, Below w1.heap.size w1 W → Blk W w.heap.size 24 #[.string e.u, .slice a e.g.length c1, .string e.v, .string e.r, .string e.s, .int .i64 e.o] ∧ Blk W (w.heap.size + 1) 24 #[.string f.u, .slice b f.g.length c2, .string f.v, .string f.r, .string f.s, .int .i64 f.o]) := ⟨fun W b => ⟨n1.kept (Kept.of_below b (fun _ => False)) id, n2.kept (Kept.of_below b (fun _ => False)) id⟩⟩
  have EQ := Hd.mk (equal_ok a b c1 c2 e.g f.g w1 (h1.carry b1) (h2.carry b1) hn)
  have HB : Hd (∀ W, Below w1.heap.size w1 W → Below w.heap.size w W) := ⟨fun W b => b1.trans (b.mono b1.size)⟩
  have HQ : Hd (smQ e f = decide (e.u = f.u ∧ e.g = f.g ∧ e.v = f.v ∧ e.r = f.r ∧ e.s = f.s ∧ e.o = f.o)) := ⟨rfl⟩
  clear b1 n1 n2 h1 h2 hn
  generalize smQ e f = Q at *
  obtain ⟨ek, ei, en, eu, eg, ev, er, es, eo, et⟩ := e
  obtain ⟨fk, fi, fn, fu, fg, fv, fr, fs, fo, ft⟩ := f
  simp only at X EQ HQ hw1 hsz
  show Calls Tryd.prog 25 #[.agg #[.string eu, .slice a eg.length c1, .string ev, .string er, .string es, .int .i64 eo], .agg #[.string fu, .slice b fg.length c2, .string fv, .string fr, .string fs, .int .i64 fo]] w _
  have HG : Hd (∀ x, decide (eg = fg) = x → (Calls Tryd.prog 42 #[.slice a eg.length c1, .slice b fg.length c2] w1 fun e w' => e = .returned (.bool x) ∧ Below w1.heap.size w1 w')) := ⟨fun x h => by rw [← h]; exact EQ.out⟩
  clear EQ
  obtain ⟨⟨p0, p1, p2, p3, p4, p5⟩, ⟨s0, s1, s2, s3, s4, s5⟩⟩ : (w1.cell? ⟨w.heap.size, 0, none⟩ = some (.string eu) ∧ w1.cell? ⟨w.heap.size, 1, none⟩ = some (.slice a eg.length c1) ∧ w1.cell? ⟨w.heap.size, 2, none⟩ = some (.string ev) ∧ w1.cell? ⟨w.heap.size, 3, none⟩ = some (.string er) ∧ w1.cell? ⟨w.heap.size, 4, none⟩ = some (.string es) ∧ w1.cell? ⟨w.heap.size, 5, none⟩ = some (.int .i64 eo)) ∧ (w1.cell? ⟨w.heap.size + 1, 0, none⟩ = some (.string fu) ∧ w1.cell? ⟨w.heap.size + 1, 1, none⟩ = some (.slice b fg.length c2) ∧ w1.cell? ⟨w.heap.size + 1, 2, none⟩ = some (.string fv) ∧ w1.cell? ⟨w.heap.size + 1, 3, none⟩ = some (.string fr) ∧ w1.cell? ⟨w.heap.size + 1, 4, none⟩ = some (.string fs) ∧ w1.cell? ⟨w.heap.size + 1, 5, none⟩ = some (.int .i64 fo)) := by
    have x := X.out w1 (Below.refl _ _)
    exact ⟨⟨x.1.cellv 0 rfl, x.1.cellv 1 rfl, x.1.cellv 2 rfl, x.1.cellv 3 rfl, x.1.cellv 4 rfl, x.1.cellv 5 rfl⟩, ⟨x.2.cellv 0 rfl, x.2.cellv 1 rfl, x.2.cellv 2 rfl, x.2.cellv 3 rfl, x.2.cellv 4 rfl, x.2.cellv 5 rfl⟩⟩
  have Y : Hd (∀ W, Below w1.heap.size w1 W → (W.cell? ⟨w.heap.size, 2, none⟩ = some (.string ev) ∧ W.cell? ⟨w.heap.size, 3, none⟩ = some (.string er) ∧ W.cell? ⟨w.heap.size, 4, none⟩ = some (.string es) ∧ W.cell? ⟨w.heap.size, 5, none⟩ = some (.int .i64 eo)) ∧ (W.cell? ⟨w.heap.size + 1, 2, none⟩ = some (.string fv) ∧ W.cell? ⟨w.heap.size + 1, 3, none⟩ = some (.string fr) ∧ W.cell? ⟨w.heap.size + 1, 4, none⟩ = some (.string fs) ∧ W.cell? ⟨w.heap.size + 1, 5, none⟩ = some (.int .i64 fo))) := ⟨fun W b => by
    have x := X.out W b
    exact ⟨⟨x.1.cellv 2 rfl, x.1.cellv 3 rfl, x.1.cellv 4 rfl, x.1.cellv 5 rfl⟩, ⟨x.2.cellv 2 rfl, x.2.cellv 3 rfl, x.2.cellv 4 rfl, x.2.cellv 5 rfl⟩⟩⟩
  clear X
  generalize hg : w.heap.size = g at *
  by_cases h0 : eu = fu
  case neg =>
    have hq : Q = false := by rw [HQ.out]; exact decide_eq_false fun h => h0 h.1
    subst hq
    clear HQ
    clear HG Y
    have ne := str_ne h0
    clear h0
    go_enter Tryd.func25, Tryd.ntmps25
    go_upto_region 1 with fail
    rw [← hw1]
    clear hw1 hsz
    go_wp2_with fail
    go_ret
    exact ⟨rfl, HB.out _ (Below.refl _ _)⟩
  by_cases h1 : eg = fg
  case neg =>
    have hq : Q = false := by rw [HQ.out]; exact decide_eq_false fun h => h1 h.2.1
    subst hq
    clear HQ
    have HG := Hd.mk (HG.out false (decide_eq_false h1))
    subst h0
    clear h1
    generalize eg.length = m at *
    generalize fg.length = m2 at *
    go_enter Tryd.func25, Tryd.ntmps25
    go_upto_region 1 with fail
    rw [← hw1]
    clear hw1 hsz
    go_wp2_with (go_at_call 42; refine HG.out.mono ?_; rintro e w2 ⟨rfl, b2⟩; obtain ⟨⟨p2, p3, p4, p5⟩, ⟨s2, s3, s4, s5⟩⟩ := Y.out w2 b2)
    go_ret
    exact ⟨rfl, HB.out _ b2⟩
  by_cases h2 : ev = fv
  case neg =>
    have hq : Q = false := by rw [HQ.out]; exact decide_eq_false fun h => h2 h.2.2.1
    subst hq
    clear HQ
    have HG := Hd.mk (HG.out true (decide_eq_true h1))
    subst h0
    have ne := str_ne h2
    clear h1 h2
    generalize eg.length = m at *
    generalize fg.length = m2 at *
    go_enter Tryd.func25, Tryd.ntmps25
    go_upto_region 1 with fail
    rw [← hw1]
    clear hw1 hsz
    go_wp2_with (go_at_call 42; refine HG.out.mono ?_; rintro e w2 ⟨rfl, b2⟩; obtain ⟨⟨p2, p3, p4, p5⟩, ⟨s2, s3, s4, s5⟩⟩ := Y.out w2 b2)
    go_ret
    exact ⟨rfl, HB.out _ b2⟩
  by_cases h3 : er = fr
  case neg =>
    have hq : Q = false := by rw [HQ.out]; exact decide_eq_false fun h => h3 h.2.2.2.1
    subst hq
    clear HQ
    have HG := Hd.mk (HG.out true (decide_eq_true h1))
    subst h0
    subst h2
    have ne := str_ne h3
    clear h1 h3
    generalize eg.length = m at *
    generalize fg.length = m2 at *
    go_enter Tryd.func25, Tryd.ntmps25
    go_upto_region 1 with fail
    rw [← hw1]
    clear hw1 hsz
    go_wp2_with (go_at_call 42; refine HG.out.mono ?_; rintro e w2 ⟨rfl, b2⟩; obtain ⟨⟨p2, p3, p4, p5⟩, ⟨s2, s3, s4, s5⟩⟩ := Y.out w2 b2)
    go_ret
    exact ⟨rfl, HB.out _ b2⟩
  by_cases h4 : es = fs
  case neg =>
    have hq : Q = false := by rw [HQ.out]; exact decide_eq_false fun h => h4 h.2.2.2.2.1
    subst hq
    clear HQ
    have HG := Hd.mk (HG.out true (decide_eq_true h1))
    subst h0
    subst h2
    subst h3
    have ne := str_ne h4
    clear h1 h4
    generalize eg.length = m at *
    generalize fg.length = m2 at *
    go_enter Tryd.func25, Tryd.ntmps25
    go_upto_region 1 with fail
    rw [← hw1]
    clear hw1 hsz
    go_wp2_with (go_at_call 42; refine HG.out.mono ?_; rintro e w2 ⟨rfl, b2⟩; obtain ⟨⟨p2, p3, p4, p5⟩, ⟨s2, s3, s4, s5⟩⟩ := Y.out w2 b2)
    go_ret
    exact ⟨rfl, HB.out _ b2⟩
  by_cases h5 : eo = fo
  case neg =>
    have hq : Q = false := by rw [HQ.out]; exact decide_eq_false fun h => h5 h.2.2.2.2.2
    subst hq
    clear HQ
    have HG := Hd.mk (HG.out true (decide_eq_true h1))
    subst h0
    subst h2
    subst h3
    subst h4
    have ne : (eo == fo) = false := by simpa using h5
    clear h1 h5
    generalize eg.length = m at *
    generalize fg.length = m2 at *
    go_enter Tryd.func25, Tryd.ntmps25
    go_upto_region 1 with fail
    rw [← hw1]
    clear hw1 hsz
    go_wp2_with (go_at_call 42; refine HG.out.mono ?_; rintro e w2 ⟨rfl, b2⟩; obtain ⟨⟨p2, p3, p4, p5⟩, ⟨s2, s3, s4, s5⟩⟩ := Y.out w2 b2)
    go_ret
    exact ⟨rfl, HB.out _ b2⟩
  have hq : Q = true := by rw [HQ.out]; exact decide_eq_true ⟨h0, h1, h2, h3, h4, h5⟩
  subst hq
  clear HQ
  have HG := Hd.mk (HG.out true (decide_eq_true h1))
  subst h0 h2 h3 h4 h5
  clear h1
  generalize eg.length = m at *
  generalize fg.length = m2 at *
  go_enter Tryd.func25, Tryd.ntmps25
  go_upto_region 1 with fail
  rw [← hw1]
  clear hw1 hsz
  go_wp2_with (go_at_call 42; refine HG.out.mono ?_; rintro e w2 ⟨rfl, b2⟩; obtain ⟨⟨p2, p3, p4, p5⟩, ⟨s2, s3, s4, s5⟩⟩ := Y.out w2 b2)
  go_ret
  exact ⟨rfl, HB.out _ b2⟩
set_option maxHeartbeats 4000000 in
set_option maxRecDepth 20000 in
theorem same_ok (e f : Ev) (a b : Option Addr) (c1 c2 : Nat) (w : World) (h1 : RowL w a e.g) (h2 : RowL w b f.g) (hn : e.g.length ≤ 9223372036854775807) :
    Calls Tryd.prog 13 #[evV e a c1, evV f b c2] w fun q w' => q = .returned (.bool (smE e f)) ∧ Below w.heap.size w w' := by
  rw [smE_split]
  unfold evV evA
  obtain ⟨w1, hw1⟩ : ∃ w1, w1 = (w.alloc (.cells #[.int .i64 e.k, .int .i64 e.i, .int .i64 e.n, .string e.u, .slice a e.g.length c1, .string e.v, .string e.r, .string e.s, .int .i64 e.o, .string e.t] 26)).alloc (.cells #[.int .i64 f.k, .int .i64 f.i, .int .i64 f.n, .string f.u, .slice b f.g.length c2, .string f.v, .string f.r, .string f.s, .int .i64 f.o, .string f.t] 26) := ⟨_, rfl⟩
  obtain ⟨b1, n1, n2⟩ := boxes w 26 26 #[.int .i64 e.k, .int .i64 e.i, .int .i64 e.n, .string e.u, .slice a e.g.length c1, .string e.v, .string e.r, .string e.s, .int .i64 e.o, .string e.t] #[.int .i64 f.k, .int .i64 f.i, .int .i64 f.n, .string f.u, .slice b f.g.length c2, .string f.v, .string f.r, .string f.s, .int .i64 f.o, .string f.t]
  rw [← hw1] at b1 n1 n2
  have hsz : (w.alloc (.cells #[.int .i64 e.k, .int .i64 e.i, .int .i64 e.n, .string e.u, .slice a e.g.length c1, .string e.v, .string e.r, .string e.s, .int .i64 e.o, .string e.t] 26)).heap.size = w.heap.size + 1 := by simp
  have EQ := Hd.mk (sameq_ok e f a b c1 c2 w1 (h1.carry b1) (h2.carry b1) hn)
  have HB : Hd (∀ W, Below w1.heap.size w1 W → Below w.heap.size w W) := ⟨fun W b => b1.trans (b.mono b1.size)⟩
  have HQ : Hd (decide (e.k = f.k ∧ e.i = f.i ∧ e.n = f.n ∧ e.t = f.t ∧ smQ e f = true) = decide (e.k = f.k ∧ e.i = f.i ∧ e.n = f.n ∧ e.t = f.t ∧ smQ e f = true)) := ⟨rfl⟩
  generalize hQ : decide (e.k = f.k ∧ e.i = f.i ∧ e.n = f.n ∧ e.t = f.t ∧ smQ e f = true) = Q at *
  have HQ := Hd.mk hQ.symm
  clear hQ
  have HP : (w1.cell? ⟨w.heap.size, 0, none⟩ = some (.int .i64 e.k) ∧ w1.cell? ⟨w.heap.size, 1, none⟩ = some (.int .i64 e.i) ∧ w1.cell? ⟨w.heap.size, 2, none⟩ = some (.int .i64 e.n) ∧ w1.cell? ⟨w.heap.size, 3, none⟩ = some (.string e.u) ∧ w1.cell? ⟨w.heap.size, 4, none⟩ = some (.slice a e.g.length c1) ∧ w1.cell? ⟨w.heap.size, 5, none⟩ = some (.string e.v) ∧ w1.cell? ⟨w.heap.size, 6, none⟩ = some (.string e.r) ∧ w1.cell? ⟨w.heap.size, 7, none⟩ = some (.string e.s) ∧ w1.cell? ⟨w.heap.size, 8, none⟩ = some (.int .i64 e.o) ∧ w1.cell? ⟨w.heap.size, 9, none⟩ = some (.string e.t)) ∧ (w1.cell? ⟨w.heap.size + 1, 0, none⟩ = some (.int .i64 f.k) ∧ w1.cell? ⟨w.heap.size + 1, 1, none⟩ = some (.int .i64 f.i) ∧ w1.cell? ⟨w.heap.size + 1, 2, none⟩ = some (.int .i64 f.n) ∧ w1.cell? ⟨w.heap.size + 1, 3, none⟩ = some (.string f.u) ∧ w1.cell? ⟨w.heap.size + 1, 4, none⟩ = some (.slice b f.g.length c2) ∧ w1.cell? ⟨w.heap.size + 1, 5, none⟩ = some (.string f.v) ∧ w1.cell? ⟨w.heap.size + 1, 6, none⟩ = some (.string f.r) ∧ w1.cell? ⟨w.heap.size + 1, 7, none⟩ = some (.string f.s) ∧ w1.cell? ⟨w.heap.size + 1, 8, none⟩ = some (.int .i64 f.o) ∧ w1.cell? ⟨w.heap.size + 1, 9, none⟩ = some (.string f.t)) := ⟨⟨n1.cellv 0 rfl, n1.cellv 1 rfl, n1.cellv 2 rfl, n1.cellv 3 rfl, n1.cellv 4 rfl, n1.cellv 5 rfl, n1.cellv 6 rfl, n1.cellv 7 rfl, n1.cellv 8 rfl, n1.cellv 9 rfl⟩, ⟨n2.cellv 0 rfl, n2.cellv 1 rfl, n2.cellv 2 rfl, n2.cellv 3 rfl, n2.cellv 4 rfl, n2.cellv 5 rfl, n2.cellv 6 rfl, n2.cellv 7 rfl, n2.cellv 8 rfl, n2.cellv 9 rfl⟩⟩
  clear b1 n1 n2 h1 h2 hn
  generalize smQ e f = sq at *
  obtain ⟨ek, ei, en, eu, eg, ev, er, es, eo, et⟩ := e
  obtain ⟨fk, fi, fn, fu, fg, fv, fr, fs, fo, ft⟩ := f
  simp only at EQ HQ hw1 hsz HP
  show Calls Tryd.prog 13 #[.agg #[.int .i64 ek, .int .i64 ei, .int .i64 en, .string eu, .slice a eg.length c1, .string ev, .string er, .string es, .int .i64 eo, .string et], .agg #[.int .i64 fk, .int .i64 fi, .int .i64 fn, .string fu, .slice b fg.length c2, .string fv, .string fr, .string fs, .int .i64 fo, .string ft]] w _
  obtain ⟨⟨p0, p1, p2, p3, p4, p5, p6, p7, p8, p9⟩, ⟨s0, s1, s2, s3, s4, s5, s6, s7, s8, s9⟩⟩ := HP
  generalize eg.length = m at *
  generalize fg.length = m2 at *
  generalize hg : w.heap.size = g at *
  by_cases h0 : ek = fk
  case neg =>
    have hq : Q = false := by rw [HQ.out]; exact decide_eq_false fun h => h0 h.1
    subst hq
    clear HQ EQ
    have ne : (ek == fk) = false := by simpa using h0
    clear h0
    go_enter Tryd.func13, Tryd.ntmps13
    go_upto_region 1 with fail
    rw [← hw1]
    clear hw1 hsz
    go_wp2_with fail
    go_ret
    exact ⟨rfl, HB.out _ (Below.refl _ _)⟩
  by_cases h1 : ei = fi
  case neg =>
    have hq : Q = false := by rw [HQ.out]; exact decide_eq_false fun h => h1 h.2.1
    subst hq
    clear HQ EQ
    subst h0
    have ne : (ei == fi) = false := by simpa using h1
    clear h1
    go_enter Tryd.func13, Tryd.ntmps13
    go_upto_region 1 with fail
    rw [← hw1]
    clear hw1 hsz
    go_wp2_with fail
    go_ret
    exact ⟨rfl, HB.out _ (Below.refl _ _)⟩
  by_cases h2 : en = fn
  case neg =>
    have hq : Q = false := by rw [HQ.out]; exact decide_eq_false fun h => h2 h.2.2.1
    subst hq
    clear HQ EQ
    subst h0
    subst h1
    have ne : (en == fn) = false := by simpa using h2
    clear h2
    go_enter Tryd.func13, Tryd.ntmps13
    go_upto_region 1 with fail
    rw [← hw1]
    clear hw1 hsz
    go_wp2_with fail
    go_ret
    exact ⟨rfl, HB.out _ (Below.refl _ _)⟩
  by_cases h3 : et = ft
  case neg =>
    have hq : Q = false := by rw [HQ.out]; exact decide_eq_false fun h => h3 h.2.2.2.1
    subst hq
    clear HQ EQ
    subst h0
    subst h1
    subst h2
    have ne := str_ne h3
    clear h3
    go_enter Tryd.func13, Tryd.ntmps13
    go_upto_region 1 with fail
    rw [← hw1]
    clear hw1 hsz
    go_wp2_with fail
    go_ret
    exact ⟨rfl, HB.out _ (Below.refl _ _)⟩
  have hq : Q = sq := by
    rw [HQ.out]
    cases sq with
    | true => exact decide_eq_true ⟨h0, h1, h2, h3, rfl⟩
    | false => exact decide_eq_false fun h => by cases h.2.2.2.2
  subst hq
  clear HQ
  subst h0 h1 h2 h3
  go_enter Tryd.func13, Tryd.ntmps13
  go_upto_region 1 with fail
  rw [← hw1]
  clear hw1 hsz
  go_wp2_with (go_at_call 25; refine EQ.out.mono ?_; rintro e w2 ⟨rfl, b2⟩)
  go_ret
  exact ⟨rfl, HB.out _ b2⟩
end Go.Proofs.YtooaojegdhamjaaDoor
