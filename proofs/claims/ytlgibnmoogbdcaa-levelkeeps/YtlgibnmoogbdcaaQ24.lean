/-
  A level at work as it lies in memory: its box of 23 cells (its type is 36), and how it is read. No condition.
  The first one of an ID, the first one that is late, by the program (slices.IndexFunc). Conditions: the row lies in memory, and is short.
  The mathematics of a stable sort in place: what a part of a row may become, exchanges, rotations, parts that are in order. No condition.
-/
import Derived.Test.YtlgibnmoogbdcaaQ23
import Derived.Test.YtlgibnmoogbdcaaQ20
namespace Go.Proofs.Ytlgibnmoogbdcaa
open Go.RowKit

def stL (s : St) (v u : Value) : List Value := [.string s.lv.name, .int .i64 s.lv.kind, .int .i64 s.lv.shares, .int .i64 s.lv.lend, .int .i64 s.lv.borrow, .int .i64 s.lv.queues, .int .i64 s.lv.hand, .int .i64 s.lv.length, .int .i64 s.lv.wait, .int .i64 s.lv.guess, .bool s.q, .int .i64 s.lim, .int .i64 s.b0, .int .i64 s.b1, .int .i64 s.b2, .int .i64 s.d0, .int .i64 s.d1, .int .u64 s.x.r, .int .i64 s.x.g, .int .i64 s.x.n, .int .i64 s.x.o, v, u]
def stB (s : St) (v u : Value) : Array Value := #[.string s.lv.name, .int .i64 s.lv.kind, .int .i64 s.lv.shares, .int .i64 s.lv.lend, .int .i64 s.lv.borrow, .int .i64 s.lv.queues, .int .i64 s.lv.hand, .int .i64 s.lv.length, .int .i64 s.lv.wait, .int .i64 s.lv.guess, .bool s.q, .int .i64 s.lim, .int .i64 s.b0, .int .i64 s.b1, .int .i64 s.b2, .int .i64 s.d0, .int .i64 s.d1, .int .u64 s.x.r, .int .i64 s.x.g, .int .i64 s.x.n, .int .i64 s.x.o, v, u]
theorem Blk.state {w : World} {b : Nat} {s : St} {v u : Value} (h : Blk w b 36 (stB s v u)) :
    (w.cell? ⟨b, 0, none⟩ = some (.string s.lv.name) ∧ w.cell? ⟨b, 1, none⟩ = some (.int .i64 s.lv.kind) ∧ w.cell? ⟨b, 2, none⟩ = some (.int .i64 s.lv.shares) ∧ w.cell? ⟨b, 3, none⟩ = some (.int .i64 s.lv.lend) ∧ w.cell? ⟨b, 4, none⟩ = some (.int .i64 s.lv.borrow) ∧ w.cell? ⟨b, 5, none⟩ = some (.int .i64 s.lv.queues) ∧ w.cell? ⟨b, 6, none⟩ = some (.int .i64 s.lv.hand) ∧ w.cell? ⟨b, 7, none⟩ = some (.int .i64 s.lv.length) ∧ w.cell? ⟨b, 8, none⟩ = some (.int .i64 s.lv.wait) ∧ w.cell? ⟨b, 9, none⟩ = some (.int .i64 s.lv.guess) ∧ w.cell? ⟨b, 10, none⟩ = some (.bool s.q) ∧ w.cell? ⟨b, 11, none⟩ = some (.int .i64 s.lim) ∧ w.cell? ⟨b, 12, none⟩ = some (.int .i64 s.b0) ∧ w.cell? ⟨b, 13, none⟩ = some (.int .i64 s.b1) ∧ w.cell? ⟨b, 14, none⟩ = some (.int .i64 s.b2) ∧ w.cell? ⟨b, 15, none⟩ = some (.int .i64 s.d0) ∧ w.cell? ⟨b, 16, none⟩ = some (.int .i64 s.d1) ∧ w.cell? ⟨b, 17, none⟩ = some (.int .u64 s.x.r) ∧ w.cell? ⟨b, 18, none⟩ = some (.int .i64 s.x.g) ∧ w.cell? ⟨b, 19, none⟩ = some (.int .i64 s.x.n) ∧ w.cell? ⟨b, 20, none⟩ = some (.int .i64 s.x.o) ∧ w.cell? ⟨b, 21, none⟩ = some v ∧ w.cell? ⟨b, 22, none⟩ = some u)
    ∧ w.frozen? ⟨b, 0, none⟩ = false ∧ w.frozen? ⟨b, 1, none⟩ = false ∧ w.frozen? ⟨b, 2, none⟩ = false ∧ w.frozen? ⟨b, 3, none⟩ = false ∧ w.frozen? ⟨b, 4, none⟩ = false ∧ w.frozen? ⟨b, 5, none⟩ = false ∧ w.frozen? ⟨b, 6, none⟩ = false ∧ w.frozen? ⟨b, 7, none⟩ = false ∧ w.frozen? ⟨b, 8, none⟩ = false ∧ w.frozen? ⟨b, 9, none⟩ = false ∧ w.frozen? ⟨b, 10, none⟩ = false ∧ w.frozen? ⟨b, 11, none⟩ = false ∧ w.frozen? ⟨b, 12, none⟩ = false ∧ w.frozen? ⟨b, 13, none⟩ = false ∧ w.frozen? ⟨b, 14, none⟩ = false ∧ w.frozen? ⟨b, 15, none⟩ = false ∧ w.frozen? ⟨b, 16, none⟩ = false ∧ w.frozen? ⟨b, 17, none⟩ = false ∧ w.frozen? ⟨b, 18, none⟩ = false ∧ w.frozen? ⟨b, 19, none⟩ = false ∧ w.frozen? ⟨b, 20, none⟩ = false ∧ w.frozen? ⟨b, 21, none⟩ = false ∧ w.frozen? ⟨b, 22, none⟩ = false :=
  ⟨⟨h.cellv 0 rfl, h.cellv 1 rfl, h.cellv 2 rfl, h.cellv 3 rfl, h.cellv 4 rfl, h.cellv 5 rfl, h.cellv 6 rfl, h.cellv 7 rfl, h.cellv 8 rfl, h.cellv 9 rfl, h.cellv 10 rfl, h.cellv 11 rfl, h.cellv 12 rfl, h.cellv 13 rfl, h.cellv 14 rfl, h.cellv 15 rfl, h.cellv 16 rfl, h.cellv 17 rfl, h.cellv 18 rfl, h.cellv 19 rfl, h.cellv 20 rfl, h.cellv 21 rfl, h.cellv 22 rfl⟩, h.frozen 0, h.frozen 1, h.frozen 2, h.frozen 3, h.frozen 4, h.frozen 5, h.frozen 6, h.frozen 7, h.frozen 8, h.frozen 9, h.frozen 10, h.frozen 11, h.frozen 12, h.frozen 13, h.frozen 14, h.frozen 15, h.frozen 16, h.frozen 17, h.frozen 18, h.frozen 19, h.frozen 20, h.frozen 21, h.frozen 22⟩
theorem state_set {w : World} {b : Nat} {z : St} {v0 u0 : Value} (h : Blk w b 36 (stB z v0 u0)) (s : St) (v u : Value) :
    Blk (((((((((((((((((((((((w.setCell ⟨b, 0, none⟩ (.string s.lv.name)).setCell ⟨b, 1, none⟩ (.int .i64 s.lv.kind)).setCell ⟨b, 2, none⟩ (.int .i64 s.lv.shares)).setCell ⟨b, 3, none⟩ (.int .i64 s.lv.lend)).setCell ⟨b, 4, none⟩ (.int .i64 s.lv.borrow)).setCell ⟨b, 5, none⟩ (.int .i64 s.lv.queues)).setCell ⟨b, 6, none⟩ (.int .i64 s.lv.hand)).setCell ⟨b, 7, none⟩ (.int .i64 s.lv.length)).setCell ⟨b, 8, none⟩ (.int .i64 s.lv.wait)).setCell ⟨b, 9, none⟩ (.int .i64 s.lv.guess)).setCell ⟨b, 10, none⟩ (.bool s.q)).setCell ⟨b, 11, none⟩ (.int .i64 s.lim)).setCell ⟨b, 12, none⟩ (.int .i64 s.b0)).setCell ⟨b, 13, none⟩ (.int .i64 s.b1)).setCell ⟨b, 14, none⟩ (.int .i64 s.b2)).setCell ⟨b, 15, none⟩ (.int .i64 s.d0)).setCell ⟨b, 16, none⟩ (.int .i64 s.d1)).setCell ⟨b, 17, none⟩ (.int .u64 s.x.r)).setCell ⟨b, 18, none⟩ (.int .i64 s.x.g)).setCell ⟨b, 19, none⟩ (.int .i64 s.x.n)).setCell ⟨b, 20, none⟩ (.int .i64 s.x.o)).setCell ⟨b, 21, none⟩ v).setCell ⟨b, 22, none⟩ u) b 36 (stB s v u)
    ∧ Kept (fun k => k = b) w (((((((((((((((((((((((w.setCell ⟨b, 0, none⟩ (.string s.lv.name)).setCell ⟨b, 1, none⟩ (.int .i64 s.lv.kind)).setCell ⟨b, 2, none⟩ (.int .i64 s.lv.shares)).setCell ⟨b, 3, none⟩ (.int .i64 s.lv.lend)).setCell ⟨b, 4, none⟩ (.int .i64 s.lv.borrow)).setCell ⟨b, 5, none⟩ (.int .i64 s.lv.queues)).setCell ⟨b, 6, none⟩ (.int .i64 s.lv.hand)).setCell ⟨b, 7, none⟩ (.int .i64 s.lv.length)).setCell ⟨b, 8, none⟩ (.int .i64 s.lv.wait)).setCell ⟨b, 9, none⟩ (.int .i64 s.lv.guess)).setCell ⟨b, 10, none⟩ (.bool s.q)).setCell ⟨b, 11, none⟩ (.int .i64 s.lim)).setCell ⟨b, 12, none⟩ (.int .i64 s.b0)).setCell ⟨b, 13, none⟩ (.int .i64 s.b1)).setCell ⟨b, 14, none⟩ (.int .i64 s.b2)).setCell ⟨b, 15, none⟩ (.int .i64 s.d0)).setCell ⟨b, 16, none⟩ (.int .i64 s.d1)).setCell ⟨b, 17, none⟩ (.int .u64 s.x.r)).setCell ⟨b, 18, none⟩ (.int .i64 s.x.g)).setCell ⟨b, 19, none⟩ (.int .i64 s.x.n)).setCell ⟨b, 20, none⟩ (.int .i64 s.x.o)).setCell ⟨b, 21, none⟩ v).setCell ⟨b, 22, none⟩ u) := by
  refine ⟨?_, ((((((((((((((((((((((((Kept.refl (fun k => k = b) w).setCell _ _ (.inl rfl)).setCell _ _ (.inl rfl)).setCell _ _ (.inl rfl)).setCell _ _ (.inl rfl)).setCell _ _ (.inl rfl)).setCell _ _ (.inl rfl)).setCell _ _ (.inl rfl)).setCell _ _ (.inl rfl)).setCell _ _ (.inl rfl)).setCell _ _ (.inl rfl)).setCell _ _ (.inl rfl)).setCell _ _ (.inl rfl)).setCell _ _ (.inl rfl)).setCell _ _ (.inl rfl)).setCell _ _ (.inl rfl)).setCell _ _ (.inl rfl)).setCell _ _ (.inl rfl)).setCell _ _ (.inl rfl)).setCell _ _ (.inl rfl)).setCell _ _ (.inl rfl)).setCell _ _ (.inl rfl)).setCell _ _ (.inl rfl)).setCell _ _ (.inl rfl))⟩
  have := (((((((((((((((((((((((h.set 0 (.string s.lv.name)).set 1 (.int .i64 s.lv.kind)).set 2 (.int .i64 s.lv.shares)).set 3 (.int .i64 s.lv.lend)).set 4 (.int .i64 s.lv.borrow)).set 5 (.int .i64 s.lv.queues)).set 6 (.int .i64 s.lv.hand)).set 7 (.int .i64 s.lv.length)).set 8 (.int .i64 s.lv.wait)).set 9 (.int .i64 s.lv.guess)).set 10 (.bool s.q)).set 11 (.int .i64 s.lim)).set 12 (.int .i64 s.b0)).set 13 (.int .i64 s.b1)).set 14 (.int .i64 s.b2)).set 15 (.int .i64 s.d0)).set 16 (.int .i64 s.d1)).set 17 (.int .u64 s.x.r)).set 18 (.int .i64 s.x.g)).set 19 (.int .i64 s.x.n)).set 20 (.int .i64 s.x.o)).set 21 v).set 22 u)
  simpa [stB] using this
/-- Tickets that are read, whatever becomes of the blocks of S. -/
def TkS (S : Nat → Prop) (w : World) (a : Option Addr) (c : Nat) (L : List Tk) : Prop := L.length ≤ c ∧ (a = none → c = 0) ∧ ∀ W, Kept S w W → TkR W a L
theorem TkS.read {S : Nat → Prop} {w W : World} {a : Option Addr} {c : Nat} {L : List Tk} (h : TkS S w a c L) (k : Kept S w W) : SlR W a c L := ⟨h.1, h.2.1, h.2.2 W k⟩
theorem TkS.step {S T : Nat → Prop} {w w2 : World} {a : Option Addr} {c : Nat} {L : List Tk} (h : TkS S w a c L) (k : Kept S w w2) (e : ∀ j, j < w.heap.size → T j → S j) : TkS T w2 a c L := ⟨h.1, h.2.1, fun W kk => h.2.2 W (k.then kk e)⟩
theorem TkS.nil (S : Nat → Prop) (w : World) : TkS S w none 0 [] := ⟨Nat.le_refl _, fun _ => rfl, fun W _ => TkR.nil W none⟩
theorem SlR.ts {S : Nat → Prop} {w w2 : World} {a : Option Addr} {c : Nat} {L : List Tk} (h : SlR w a c L) (b : Below w.heap.size w w2) (hS : ∀ j, S j → w.heap.size ≤ j) : TkS S w2 a c L := ⟨h.1, h.2.1, fun _ k => h.2.2.carry (b.trans (k.below b.size hS))⟩
theorem OwnT.ts {S : Nat → Prop} {w : World} {B : Nat} {v : Value} {L : List Tk} (h : OwnT w B v L) (hS : ∀ j, B ≤ j → ¬ S j) : ∃ a c, v = .slice a L.length c ∧ TkS S w a c L := by
  obtain ⟨a, c, e, r⟩ := h.read
  refine ⟨a, c, e, r.1, r.2.1, fun W k => ?_⟩
  obtain ⟨a', c', e', r'⟩ := (h.kept k hS).read
  rw [e] at e'
  injection e' with x1 x2 x3
  subst x1
  exact r'.2.2
/-- A state as it is answered, whatever becomes of the blocks of S. -/
def StV (S : Nat → Prop) (w : World) (s : St) (e : Value) : Prop := ∃ a c ar cr, e = .agg (stB s (.slice a s.x.F.length c) (.slice ar s.run.length cr)) ∧ StR S w a c s.x.F ∧ TkS S w ar cr s.run
end Go.Proofs.Ytlgibnmoogbdcaa

namespace Go.Proofs.Ytlgibnmoogbdcaa
open Go.RowKit

/-- Where the first one stands that is late; behind all, if there is none. -/
def fxN (now : Int) : List Tk → Nat
  | [] => 0
  | t :: L => if ltB now t = true then 0 else fxN now L + 1
theorem fxN_yes {now : Int} {t : Tk} {L : List Tk} (h : ltB now t = true) : fxN now (t :: L) = 0 := if_pos h
theorem fxN_next {now : Int} {t : Tk} {L : List Tk} (h : ltB now t = false) : fxN now (t :: L) = fxN now L + 1 := if_neg (by rw [h]; decide)
theorem fxN_at (now : Int) : ∀ (L : List Tk) (k : Nat), k < L.length → ltB now (gt L k) = true → (∀ j, j < k → ltB now (gt L j) = false) → fxN now L = k
  | [], k, h, _, _ => absurd h (Nat.not_lt_zero k)
  | t :: L, 0, _, e, _ => fxN_yes e
  | t :: L, k + 1, h, e, hn => by
    rw [fxN_next (t := t) (hn 0 (Nat.succ_pos k)), fxN_at now L k (by simpa using h) e (fun j hj => hn (j + 1) (by omega))]
theorem fxN_none (now : Int) : ∀ (L : List Tk), (∀ j, j < L.length → ltB now (gt L j) = false) → fxN now L = L.length
  | [], _ => rfl
  | t :: L, hn => by
    rw [fxN_next (t := t) (hn 0 (by simp)), fxN_none now L (fun j hj => hn (j + 1) (by simpa using hj))]
    rfl
theorem fxN_le (now : Int) : ∀ (L : List Tk), fxN now L ≤ L.length
  | [] => Nat.le_refl _
  | t :: L => by
    cases e : ltB now t with
    | true => rw [fxN_yes e]; exact Nat.zero_le _
    | false => rw [fxN_next e]; have := fxN_le now L; simp; omega
theorem fxN_is (now : Int) : ∀ (L : List Tk), fxN now L < L.length → ltB now (gt L (fxN now L)) = true
  | [], h => absurd h (Nat.not_lt_zero _)
  | t :: L, h => by
    cases e : ltB now t with
    | true => rw [fxN_yes e]; exact e
    | false =>
      rw [fxN_next e] at h ⊢
      rw [gt_cons_succ]
      exact fxN_is now L (by simpa using h)
theorem fxN_not (now : Int) : ∀ (L : List Tk) (j : Nat), j < fxN now L → ltB now (gt L j) = false
  | [], j, h => absurd h (Nat.not_lt_zero _)
  | t :: L, j, h => by
    cases e : ltB now t with
    | true => rw [fxN_yes e] at h; exact absurd h (Nat.not_lt_zero _)
    | false =>
      rw [fxN_next e] at h
      cases j with
      | zero => exact e
      | succ j => rw [gt_cons_succ]; exact fxN_not now L j (by omega)
def fxI (now : Int) (L : List Tk) : Int := if fxN now L < L.length then (fxN now L : Int) else -1

theorem ofD_ok (t : Tk) (id : Int) (g : Nat) (w : World) (hg : Blk w g 3 #[.int .i64 id]) :
    Calls Try.prog 46 #[.agg #[.int .i64 t.id, .int .i64 t.wid, .int .i64 t.sts, .int .i64 t.sin, .int .i64 t.unt], .pointer (some ⟨g, 0, none⟩)] w fun e w' => e = .returned (.bool (t.id == id)) ∧ Below w.heap.size w w' := by
  obtain ⟨w1, hw1⟩ : ∃ w1, w1 = w.alloc (.cells #[.int .i64 t.id, .int .i64 t.wid, .int .i64 t.sts, .int .i64 t.sin, .int .i64 t.unt] 42) := ⟨_, rfl⟩
  have B : Hd (Below w.heap.size w w1) := ⟨by rw [hw1]; exact alloc_below _ _⟩
  have N1 : Blk w1 w.heap.size 42 (tkA t) := by rw [hw1]; exact Blk.new _ _ _
  have G1 : Blk w1 g 3 #[.int .i64 id] := by rw [hw1]; exact hg.alloc _
  obtain ⟨⟨c0, c1, c2, c3, c4⟩, -⟩ := N1.five
  have g0 := G1.cellv (v := .int .i64 id) 0 rfl
  clear N1 G1 hg c1 c2 c3 c4
  go_enter Try.func46, Try.ntmps46
  go_upto_region 1 with fail
  rw [← hw1]
  clear hw1
  go_wp2
  go_ret; exact ⟨rfl, B.out⟩

set_option maxRecDepth 20000 in
set_option maxHeartbeats 1000000 in
theorem indexD_ok (a : Option Addr) (c : Nat) (L : List Tk) (id : Int) (g : Nat) (w : World) (h : TkR w a L) (hl : L.length ≤ 2000) (hg : Blk w g 3 #[.int .i64 id]) :
    Calls Try.prog 45 #[.slice a L.length c, .func (.func 46) #[] #[.pointer (some ⟨g, 0, none⟩)]] w fun e w' => e = .returned (.int .i64 (ixI id L)) ∧ Below w.heap.size w w' := by
  have eg : ∀ args w, (callFunc 46 args).run Try.prog w = .ok (.enter 46 args) w := enters_of Try.func46 (by kernel_rfl) rfl
  have H : Hd (∀ W, Below w.heap.size w W → TkR W a L ∧ Blk W g 3 #[.int .i64 id]) := ⟨fun W b => ⟨h.carry b, hg.kept (Kept.of_below b (fun _ => False)) (fun h => h)⟩⟩
  obtain ⟨n, hn⟩ : ∃ n, L.length = n := ⟨_, rfl⟩
  have HL : Hd (L.length = n) := ⟨hn⟩
  have HX : Hd ((∀ k, k < n → (gt L k).id = id → (∀ j, j < k → (gt L j).id ≠ id) → ixI id L = (k : Int)) ∧ ((∀ j, j < n → (gt L j).id ≠ id) → ixI id L = -1)) := ⟨fun k hk e hno => by
      unfold ixI; rw [fnd_at id L k (by omega) e hno, if_pos (by omega)], fun hno => by
      unfold ixI; rw [fnd_none id L (fun j hj => hno j (by omega)), if_neg (by omega)]⟩
  rw [hn] at hl ⊢
  clear hn h hg
  go_enter Try.func45, Try.ntmps45
  go_wp2_with fail
  go_loopw [8] (fun i wr => ∃ k : Nat, k ≤ n ∧ i = .int .i64 k ∧ Hd (∀ j, j < k → (gt L j).id ≠ id) ∧ Below w.heap.size w wr) (fun i _ => n - (intOf i).toNat)
  case atStart => exact ⟨0, Nat.zero_le _, rfl, ⟨fun j h => absurd h (Nat.not_lt_zero _)⟩, Below.refl _ _⟩
  case round =>
    obtain ⟨k, hk, rfl, hno, hb⟩ := hrel
    by_cases hlt : k < n
    · obtain ⟨hR, hG⟩ := H.out wr hb
      obtain ⟨b, off, rfl, -, d0, d1, d2, d3, d4⟩ := hR.at (k := k) (by rw [HL.out]; exact hlt)
      have I := ofD_ok (gt L k) id g wr hG
      have BB : Hd (Below w.heap.size w wr) := ⟨hb⟩
      clear hR hG hb
      have HT : Hd ((gt L k).id = id → ixI id L = (k : Int)) := ⟨fun e => HX.out.1 k hlt e hno.out⟩
      have HF : Hd ((gt L k).id ≠ id → ∀ j, j < k + 1 → (gt L j).id ≠ id) := ⟨fun e j hj => by
        rcases Nat.lt_or_eq_of_le (Nat.le_of_lt_succ hj) with h1 | h1
        · exact hno.out j h1
        · subst h1; exact e⟩
      clear hno
      by_cases e : (gt L k).id = id
      · have A : Hd (ixI id L = (k : Int)) := ⟨HT.out e⟩
        rw [show ((gt L k).id == id) = true from by simpa using e] at I
        clear HT HF
        generalize gt L k = z at *
        obtain ⟨z0, z1, z2, z3, z4⟩ := z
        simp only at d0 d1 d2 d3 d4 I
        clear e
        go_wp2_with (go_at_fn 46; refine I.mono ?_; rintro e w2 ⟨rfl, h2⟩)
        go_ret
        exact ⟨by rw [A.out]; rfl, BB.out.trans (h2.mono BB.out.size)⟩
      · have A : Hd (∀ j, j < k + 1 → (gt L j).id ≠ id) := ⟨HF.out e⟩
        rw [show ((gt L k).id == id) = false from by simpa using e] at I
        clear HT HF
        generalize gt L k = z at *
        obtain ⟨z0, z1, z2, z3, z4⟩ := z
        simp only at d0 d1 d2 d3 d4 I
        clear e
        go_wp2_with (go_at_fn 46; refine I.mono ?_; rintro e w2 ⟨rfl, h2⟩)
        go_roundw
        case rel => exact ⟨k + 1, by omega, by go_num, A, BB.out.trans (h2.mono BB.out.size)⟩
        case measure => simp [intOf]; omega
    · obtain rfl : k = n := by omega
      have A : Hd (ixI id L = -1) := ⟨HX.out.2 hno.out⟩
      clear hno
      go_wp2_with fail
      go_ret
      exact ⟨by rw [A.out]; rfl, hb⟩

theorem ofL_ok (t : Tk) (now : Int) (g : Nat) (w : World) (hg : Blk w g 3 #[.int .i64 now]) :
    Calls Try.prog 52 #[.agg #[.int .i64 t.id, .int .i64 t.wid, .int .i64 t.sts, .int .i64 t.sin, .int .i64 t.unt], .pointer (some ⟨g, 0, none⟩)] w fun e w' => e = .returned (.bool (ltB now t)) ∧ Below w.heap.size w w' := by
  obtain ⟨w1, hw1⟩ : ∃ w1, w1 = w.alloc (.cells #[.int .i64 t.id, .int .i64 t.wid, .int .i64 t.sts, .int .i64 t.sin, .int .i64 t.unt] 42) := ⟨_, rfl⟩
  have B : Hd (Below w.heap.size w w1) := ⟨by rw [hw1]; exact alloc_below _ _⟩
  have N1 : Blk w1 w.heap.size 42 (tkA t) := by rw [hw1]; exact Blk.new _ _ _
  have G1 : Blk w1 g 3 #[.int .i64 now] := by rw [hw1]; exact hg.alloc _
  obtain ⟨⟨c0, c1, c2, c3, c4⟩, -⟩ := N1.five
  have g0 := G1.cellv (v := .int .i64 now) 0 rfl
  clear N1 G1 hg c0 c1 c2 c3
  unfold ltB
  go_enter Try.func52, Try.ntmps52
  go_upto_region 1 with fail
  rw [← hw1]
  clear hw1
  go_wp2
  go_ret; exact ⟨rfl, B.out⟩

set_option maxRecDepth 20000 in
set_option maxHeartbeats 1000000 in
theorem indexL_ok (a : Option Addr) (c : Nat) (L : List Tk) (now : Int) (g : Nat) (w : World) (h : TkR w a L) (hl : L.length ≤ 2000) (hg : Blk w g 3 #[.int .i64 now]) :
    Calls Try.prog 45 #[.slice a L.length c, .func (.func 52) #[] #[.pointer (some ⟨g, 0, none⟩)]] w fun e w' => e = .returned (.int .i64 (fxI now L)) ∧ Below w.heap.size w w' := by
  have eg : ∀ args w, (callFunc 52 args).run Try.prog w = .ok (.enter 52 args) w := enters_of Try.func52 (by kernel_rfl) rfl
  have H : Hd (∀ W, Below w.heap.size w W → TkR W a L ∧ Blk W g 3 #[.int .i64 now]) := ⟨fun W b => ⟨h.carry b, hg.kept (Kept.of_below b (fun _ => False)) (fun h => h)⟩⟩
  obtain ⟨n, hn⟩ : ∃ n, L.length = n := ⟨_, rfl⟩
  have HL : Hd (L.length = n) := ⟨hn⟩
  have HX : Hd ((∀ k, k < n → ltB now (gt L k) = true → (∀ j, j < k → ltB now (gt L j) = false) → fxI now L = (k : Int)) ∧ ((∀ j, j < n → ltB now (gt L j) = false) → fxI now L = -1)) := ⟨fun k hk e hno => by
      unfold fxI; rw [fxN_at now L k (by omega) e hno, if_pos (by omega)], fun hno => by
      unfold fxI; rw [fxN_none now L (fun j hj => hno j (by omega)), if_neg (by omega)]⟩
  rw [hn] at hl ⊢
  clear hn h hg
  go_enter Try.func45, Try.ntmps45
  go_wp2_with fail
  go_loopw [8] (fun i wr => ∃ k : Nat, k ≤ n ∧ i = .int .i64 k ∧ Hd (∀ j, j < k → ltB now (gt L j) = false) ∧ Below w.heap.size w wr) (fun i _ => n - (intOf i).toNat)
  case atStart => exact ⟨0, Nat.zero_le _, rfl, ⟨fun j h => absurd h (Nat.not_lt_zero _)⟩, Below.refl _ _⟩
  case round =>
    obtain ⟨k, hk, rfl, hno, hb⟩ := hrel
    by_cases hlt : k < n
    · obtain ⟨hR, hG⟩ := H.out wr hb
      obtain ⟨b, off, rfl, -, d0, d1, d2, d3, d4⟩ := hR.at (k := k) (by rw [HL.out]; exact hlt)
      have I := ofL_ok (gt L k) now g wr hG
      have BB : Hd (Below w.heap.size w wr) := ⟨hb⟩
      clear hR hG hb
      have HT : Hd (ltB now (gt L k) = true → fxI now L = (k : Int)) := ⟨fun e => HX.out.1 k hlt e hno.out⟩
      have HF : Hd (ltB now (gt L k) = false → ∀ j, j < k + 1 → ltB now (gt L j) = false) := ⟨fun e j hj => by
        rcases Nat.lt_or_eq_of_le (Nat.le_of_lt_succ hj) with h1 | h1
        · exact hno.out j h1
        · subst h1; exact e⟩
      clear hno
      by_cases e : ltB now (gt L k) = true
      · have A : Hd (fxI now L = (k : Int)) := ⟨HT.out e⟩
        rw [e] at I
        clear HT HF
        generalize gt L k = z at *
        obtain ⟨z0, z1, z2, z3, z4⟩ := z
        simp only at d0 d1 d2 d3 d4 I
        clear e
        go_wp2_with (go_at_fn 52; refine I.mono ?_; rintro e w2 ⟨rfl, h2⟩)
        go_ret
        exact ⟨by rw [A.out]; rfl, BB.out.trans (h2.mono BB.out.size)⟩
      · have e : ltB now (gt L k) = false := by simpa using e
        have A : Hd (∀ j, j < k + 1 → ltB now (gt L j) = false) := ⟨HF.out e⟩
        rw [e] at I
        clear HT HF
        generalize gt L k = z at *
        obtain ⟨z0, z1, z2, z3, z4⟩ := z
        simp only at d0 d1 d2 d3 d4 I
        clear e
        go_wp2_with (go_at_fn 52; refine I.mono ?_; rintro e w2 ⟨rfl, h2⟩)
        go_roundw
        case rel => exact ⟨k + 1, by omega, by go_num, A, BB.out.trans (h2.mono BB.out.size)⟩
        case measure => simp [intOf]; omega
    · obtain rfl : k = n := by omega
      have A : Hd (fxI now L = -1) := ⟨HX.out.2 hno.out⟩
      clear hno
      go_wp2_with fail
      go_ret
      exact ⟨by rw [A.out]; rfl, hb⟩
end Go.Proofs.Ytlgibnmoogbdcaa

namespace Go.Proofs.Ytlgibnmoogbdcaa

theorem gt_app_l {A B : List Tk} {k : Nat} (h : k < A.length) : gt (A ++ B) k = gt A k := by
  unfold gt
  rw [List.getD_eq_getElem?_getD, List.getD_eq_getElem?_getD, List.getElem?_append_left h]
theorem gt_app_r {A B : List Tk} {k : Nat} (h : A.length ≤ k) : gt (A ++ B) k = gt B (k - A.length) := by
  unfold gt
  rw [List.getD_eq_getElem?_getD, List.getD_eq_getElem?_getD, List.getElem?_append_right h]
theorem gt_app_at (A B : List Tk) (k : Nat) : gt (A ++ B) (A.length + k) = gt B k := by rw [gt_app_r (Nat.le_add_right _ _), Nat.add_sub_cancel_left]
theorem gt_tk {L : List Tk} {n k : Nat} (h : k < n) : gt (L.take n) k = gt L k := by
  unfold gt
  rw [List.getD_eq_getElem?_getD, List.getD_eq_getElem?_getD, List.getElem?_take_of_lt h]
theorem gt_dp (L : List Tk) (n k : Nat) : gt (L.drop n) k = gt L (n + k) := by
  unfold gt
  rw [List.getD_eq_getElem?_getD, List.getD_eq_getElem?_getD, List.getElem?_drop]
theorem gt_set (L : List Tk) (i : Nat) (t : Tk) (k : Nat) (h : i < L.length) : gt (L.set i t) k = if i = k then t else gt L k := by
  unfold gt
  rw [List.getD_eq_getElem?_getD, List.getD_eq_getElem?_getD, List.getElem?_set]
  by_cases e : i = k
  · rw [if_pos e, if_pos e, if_pos h]; rfl
  · rw [if_neg e, if_neg e]
theorem gt_ext {L M : List Tk} (h : L.length = M.length) (e : ∀ k, k < L.length → gt L k = gt M k) : L = M := by
  apply List.ext_getElem h
  intro k h1 h2
  have a := gt_get h1
  have b := gt_get h2
  rw [List.getElem?_eq_getElem h1] at a
  rw [List.getElem?_eq_getElem h2] at b
  injection a with a
  injection b with b
  rw [a, b, e k h1]
/-- Those of one number. -/
def of1 (v : Int) (L : List Tk) : List Tk := L.filter fun t => t.id == v
theorem of1_app (v : Int) (A B : List Tk) : of1 v (A ++ B) = of1 v A ++ of1 v B := List.filter_append ..
theorem of1_none {v : Int} {L : List Tk} (h : ∀ t ∈ L, t.id ≠ v) : of1 v L = [] := List.filter_eq_nil_iff.2 fun t ht => by simpa using h t ht
theorem of1_mem {v : Int} {L : List Tk} {t : Tk} : t ∈ of1 v L ↔ t ∈ L ∧ t.id = v := by unfold of1; rw [List.mem_filter]; simp
/-- A part of a row that turns: nothing out of it does, it has what it had, and those of one number stay in their order. -/
structure Rl (a b : Nat) (L M : List Tk) : Prop where
  len : M.length = L.length
  stb : ∀ v, of1 v M = of1 v L
  out : ∀ k, k < a ∨ b ≤ k → gt M k = gt L k
  ins : ∀ k, a ≤ k → k < b → ∃ j, a ≤ j ∧ j < b ∧ gt M k = gt L j
theorem Rl.refl (a b : Nat) (L : List Tk) : Rl a b L L := ⟨rfl, fun _ => rfl, fun _ _ => rfl, fun k h1 h2 => ⟨k, h1, h2, rfl⟩⟩
theorem Rl.trans {a b : Nat} {L M N : List Tk} (h : Rl a b L M) (k : Rl a b M N) : Rl a b L N :=
  ⟨k.len.trans h.len, fun v => (k.stb v).trans (h.stb v), fun i hi => (k.out i hi).trans (h.out i hi), fun i h1 h2 => by
    obtain ⟨j, j1, j2, e⟩ := k.ins i h1 h2
    obtain ⟨q, q1, q2, e2⟩ := h.ins j j1 j2
    exact ⟨q, q1, q2, e.trans e2⟩⟩
theorem Rl.wide {a b a' b' : Nat} {L M : List Tk} (h : Rl a b L M) (ha : a' ≤ a) (hb : b ≤ b') : Rl a' b' L M :=
  ⟨h.len, h.stb, fun k hk => h.out k (by omega), fun k h1 h2 => by
    by_cases c : a ≤ k ∧ k < b
    · obtain ⟨j, j1, j2, e⟩ := h.ins k c.1 c.2
      exact ⟨j, by omega, by omega, e⟩
    · exact ⟨k, h1, h2, h.out k (by omega)⟩⟩
/-- A part of a row that is in order. -/
def Sd (a b : Nat) (L : List Tk) : Prop := ∀ i j, a ≤ i → i ≤ j → j < b → (gt L i).id ≤ (gt L j).id
theorem Sd.one (a : Nat) (L : List Tk) : Sd a (a + 1) L := fun i j h1 h2 h3 => by
  obtain rfl : i = j := by omega
  exact Int.le_refl _
theorem Sd.none {a b : Nat} {L : List Tk} (h : b ≤ a + 1) : Sd a b L := fun i j h1 h2 h3 => by
  obtain rfl : i = j := by omega
  exact Int.le_refl _
theorem Sd.part {a b a' b' : Nat} {L : List Tk} (h : Sd a b L) (ha : a ≤ a') (hb : b' ≤ b) : Sd a' b' L := fun i j h1 h2 h3 => h i j (by omega) h2 (by omega)
theorem Sd.congr {a b : Nat} {L M : List Tk} (h : Sd a b L) (e : ∀ k, a ≤ k → k < b → gt M k = gt L k) : Sd a b M := fun i j h1 h2 h3 => by
  rw [e i h1 (by omega), e j (by omega) h3]
  exact h i j h1 h2 h3
/-- What stands apart from the part that turned is as it was. -/
theorem Rl.sd {a b x y : Nat} {L M : List Tk} (h : Rl a b L M) (s : Sd x y L) (e : y ≤ a ∨ b ≤ x) : Sd x y M := s.congr fun k h1 h2 => h.out k (by omega)
/-- Bounds on what a part has stay. -/
theorem Rl.all {a b : Nat} {L M : List Tk} (h : Rl a b L M) {P : Tk → Prop} (s : ∀ k, a ≤ k → k < b → P (gt L k)) : ∀ k, a ≤ k → k < b → P (gt M k) := fun k h1 h2 => by
  obtain ⟨j, j1, j2, e⟩ := h.ins k h1 h2
  rw [e]
  exact s j j1 j2
/-- Two parts in order, one wholly ahead of the other. -/
theorem Sd.two {a m b : Nat} {L : List Tk} (h1 : Sd a m L) (h2 : Sd m b L) (h : ∀ i j, a ≤ i → i < m → m ≤ j → j < b → (gt L i).id ≤ (gt L j).id) : Sd a b L := fun i j i1 ij j1 => by
  by_cases c : j < m
  · exact h1 i j i1 ij c
  · by_cases d : m ≤ i
    · exact h2 i j d ij j1
    · exact h i j i1 (by omega) (by omega) j1

/-- An exchange. -/
def swT (L : List Tk) (i j : Nat) : List Tk := (L.set i (gt L j)).set j (gt L i)
theorem swT_len (L : List Tk) (i j : Nat) : (swT L i j).length = L.length := by unfold swT; rw [List.length_set, List.length_set]
theorem swT_at {L : List Tk} {i j : Nat} (hi : i < L.length) (hj : j < L.length) (k : Nat) : gt (swT L i j) k = if j = k then gt L i else if i = k then gt L j else gt L k := by
  unfold swT
  rw [gt_set _ _ _ _ (by rw [List.length_set]; exact hj), gt_set _ _ _ _ hi]
theorem swT_comm {L : List Tk} {i j : Nat} (hi : i < L.length) (hj : j < L.length) : swT L i j = swT L j i := by
  refine gt_ext (by rw [swT_len, swT_len]) fun k _ => ?_
  rw [swT_at hi hj, swT_at hj hi]
  by_cases c : j = k
  · by_cases d : i = k
    · rw [if_pos c, if_pos d, c, d]
    · rw [if_pos c, if_neg d, if_pos c]
  · by_cases d : i = k
    · rw [if_neg c, if_pos d, if_pos d]
    · rw [if_neg c, if_neg d, if_neg d, if_neg c]
theorem swT_list (A B C : List Tk) (x y : Tk) : swT (A ++ x :: B ++ y :: C) A.length (A.length + 1 + B.length) = A ++ y :: B ++ x :: C := by
  have hi : A.length < (A ++ x :: B ++ y :: C).length := by simp only [List.length_append, List.length_cons]; omega
  have hj : A.length + 1 + B.length < (A ++ x :: B ++ y :: C).length := by simp only [List.length_append, List.length_cons]; omega
  have ex : gt (A ++ x :: B ++ y :: C) A.length = x := by
    rw [List.append_assoc, gt_app_r (Nat.le_refl _), Nat.sub_self]
    rfl
  have ey : gt (A ++ x :: B ++ y :: C) (A.length + 1 + B.length) = y := by
    rw [gt_app_r (by simp; omega)]
    have : A.length + 1 + B.length - (A ++ x :: B).length = 0 := by simp; omega
    rw [this]
    rfl
  refine gt_ext (by rw [swT_len]; simp) fun k _ => ?_
  rw [swT_at hi hj, ex, ey]
  by_cases c : A.length + 1 + B.length = k
  · rw [if_pos c, gt_app_r (by simp; omega)]
    have : k - (A ++ y :: B).length = 0 := by simp; omega
    rw [this]
    rfl
  · rw [if_neg c]
    by_cases d : A.length = k
    · rw [if_pos d, List.append_assoc, gt_app_r (by omega)]
      have : k - A.length = 0 := by omega
      rw [this]
      rfl
    · rw [if_neg d]
      by_cases e : k < A.length
      · rw [List.append_assoc, List.append_assoc, gt_app_l e, gt_app_l e]
      · by_cases f : k < A.length + 1 + B.length
        · rw [gt_app_l (A := A ++ x :: B) (by simp; omega), gt_app_l (A := A ++ y :: B) (by simp; omega), gt_app_r (A := A) (by omega), gt_app_r (A := A) (by omega)]
          obtain ⟨q, hq⟩ : ∃ q, k - A.length = q + 1 := ⟨k - A.length - 1, by omega⟩
          rw [hq]
          rfl
        · rw [gt_app_r (by simp; omega), gt_app_r (by simp; omega)]
          obtain ⟨q, hq⟩ : ∃ q, k - (A ++ x :: B).length = q + 1 := ⟨k - (A ++ x :: B).length - 1, by simp; omega⟩
          have hq2 : k - (A ++ y :: B).length = q + 1 := by rw [← hq]; simp
          rw [hq, hq2]
          rfl
/-- Neighbours of unlike numbers are exchanged. -/
theorem swT_of1 (v : Int) : ∀ (L : List Tk) (k : Nat), k + 1 < L.length → (gt L k).id ≠ (gt L (k + 1)).id → of1 v (swT L k (k + 1)) = of1 v L
  | [], k, h, _ => absurd h (by simp)
  | [_], k, h, _ => absurd h (by simp)
  | x :: y :: R, 0, _, e => by
    show of1 v (y :: x :: R) = of1 v (x :: y :: R)
    have e : x.id ≠ y.id := e
    unfold of1
    by_cases c : x.id = v
    · rw [List.filter_cons_of_neg (a := y) (by simpa using fun d => e (by rw [c, d])), List.filter_cons_of_pos (a := x) (by simpa using c), List.filter_cons_of_pos (a := x) (by simpa using c), List.filter_cons_of_neg (a := y) (by simpa using fun d => e (by rw [c, d]))]
    · by_cases d : y.id = v
      · rw [List.filter_cons_of_pos (a := y) (by simpa using d), List.filter_cons_of_neg (a := x) (by simpa using c), List.filter_cons_of_neg (a := x) (by simpa using c), List.filter_cons_of_pos (a := y) (by simpa using d)]
      · rw [List.filter_cons_of_neg (a := y) (by simpa using d), List.filter_cons_of_neg (a := x) (by simpa using c), List.filter_cons_of_neg (a := x) (by simpa using c), List.filter_cons_of_neg (a := y) (by simpa using d)]
  | x :: y :: R, k + 1, h, e => by
    have ih := swT_of1 v (y :: R) k (by simpa using h) e
    have e2 : swT (x :: y :: R) (k + 1) (k + 1 + 1) = x :: swT (y :: R) k (k + 1) := rfl
    rw [e2]
    unfold of1 at ih ⊢
    by_cases c : x.id = v
    · rw [List.filter_cons_of_pos (by simpa using c), List.filter_cons_of_pos (by simpa using c), ih]
    · rw [List.filter_cons_of_neg (by simpa using c), List.filter_cons_of_neg (by simpa using c), ih]
theorem Rl.swap {L : List Tk} {a b k : Nat} (hk : k + 1 < L.length) (ha : a ≤ k) (hb : k + 1 < b) (e : (gt L k).id ≠ (gt L (k + 1)).id) : Rl a b L (swT L k (k + 1)) := by
  refine ⟨swT_len _ _ _, fun v => swT_of1 v L k hk e, fun j hj => ?_, fun j h1 h2 => ?_⟩
  · rw [swT_at (by omega) hk, if_neg (by omega), if_neg (by omega)]
  · rw [swT_at (by omega) hk]
    by_cases c : k + 1 = j
    · exact ⟨k, by omega, by omega, by rw [if_pos c]⟩
    · by_cases d : k = j
      · exact ⟨k + 1, by omega, by omega, by rw [if_neg c, if_pos d]⟩
      · exact ⟨j, h1, h2, by rw [if_neg c, if_neg d]⟩

/-- Two parts of a row, the one in the place of the other. -/
theorem Rl.rot {P U V S : List Tk} (h : ∀ u ∈ U, ∀ v ∈ V, u.id ≠ v.id) : Rl P.length (P.length + U.length + V.length) (P ++ U ++ V ++ S) (P ++ V ++ U ++ S) := by
  refine ⟨by simp; omega, fun v => ?_, fun k hk => ?_, fun k h1 h2 => ?_⟩
  · simp only [of1_app, List.append_assoc]
    by_cases c : of1 v U = []
    · rw [c, List.nil_append, List.nil_append]
    · have d : of1 v V = [] := of1_none fun t ht e => by
        obtain ⟨u, hu⟩ := List.exists_mem_of_ne_nil _ c
        obtain ⟨u1, u2⟩ := of1_mem.1 hu
        exact h u u1 t ht (by rw [u2, e])
      rw [d, List.nil_append, List.nil_append]
  · rcases hk with c | c
    · rw [List.append_assoc, List.append_assoc, List.append_assoc, List.append_assoc, gt_app_l c, gt_app_l c]
    · rw [gt_app_r (by simp; omega), gt_app_r (by simp; omega)]
      congr 1
      simp
      omega
  · by_cases c : k < P.length + V.length
    · refine ⟨k + U.length, by omega, by omega, ?_⟩
      rw [gt_app_l (by simp; omega), gt_app_l (by simp; omega), gt_app_r h1, gt_app_l (by simp; omega), gt_app_r (by simp; omega)]
      congr 1
      simp
      omega
    · refine ⟨k - V.length, by omega, by omega, ?_⟩
      rw [gt_app_l (by simp; omega), gt_app_r (by simp; omega), gt_app_l (by simp; omega), gt_app_l (by simp; omega), gt_app_r (by omega)]
      congr 1
      simp
      omega
/-- The two parts, by their places. -/
theorem rot_at {P U V S : List Tk} {k : Nat} (h1 : P.length ≤ k) : (k < P.length + V.length → gt (P ++ V ++ U ++ S) k = gt (P ++ U ++ V ++ S) (k + U.length)) ∧ (P.length + V.length ≤ k → k < P.length + V.length + U.length → gt (P ++ V ++ U ++ S) k = gt (P ++ U ++ V ++ S) (k - V.length)) := by
  refine ⟨fun c => ?_, fun c h2 => ?_⟩
  · rw [gt_app_l (by simp; omega), gt_app_l (by simp; omega), gt_app_r h1, gt_app_l (by simp; omega), gt_app_r (by simp; omega)]
    congr 1
    simp
    omega
  · rw [gt_app_l (by simp; omega), gt_app_r (by simp; omega), gt_app_l (by simp; omega), gt_app_l (by simp; omega), gt_app_r (by omega)]
    congr 1
    simp
    omega
/-- A row by three of its places. -/
theorem cut4 {L : List Tk} {a m b : Nat} (h1 : a ≤ m) (h2 : m ≤ b) (h3 : b ≤ L.length) : ∃ P U V S, L = P ++ U ++ V ++ S ∧ P.length = a ∧ U.length = m - a ∧ V.length = b - m := by
  refine ⟨L.take a, (L.drop a).take (m - a), (L.drop m).take (b - m), L.drop b, ?_, by rw [List.length_take]; omega, by rw [List.length_take, List.length_drop]; omega, by rw [List.length_take, List.length_drop]; omega⟩
  have e1 := List.take_append_drop a L
  have e2 := List.take_append_drop (m - a) (L.drop a)
  have e3 := List.take_append_drop (b - m) (L.drop m)
  rw [List.drop_drop, show a + (m - a) = m from by omega] at e2
  rw [List.drop_drop, show m + (b - m) = b from by omega] at e3
  rw [← e3] at e2
  rw [← e2] at e1
  rw [List.append_assoc, List.append_assoc]
  exact e1.symm

/-- A row that is in order and has of each number those that another one has, in their order, is that one, sorted. -/
theorem insT_of1 (v : Int) (t : Tk) : ∀ L, of1 v (insT t L) = of1 v (t :: L)
  | [] => rfl
  | u :: L => by
    unfold insT
    by_cases c : t.id ≤ u.id
    · rw [if_pos c]
    · rw [if_neg c]
      have ih := insT_of1 v t L
      have e : of1 v (t :: u :: L) = of1 v (u :: t :: L) := by
        have := swT_of1 v (u :: t :: L) 0 (by simp) (show u.id ≠ t.id from by omega)
        exact this
      rw [e]
      unfold of1 at ih ⊢
      by_cases d : u.id = v
      · rw [List.filter_cons_of_pos (a := u) (by simpa using d), List.filter_cons_of_pos (a := u) (by simpa using d), ih]
      · rw [List.filter_cons_of_neg (a := u) (by simpa using d), List.filter_cons_of_neg (a := u) (by simpa using d), ih]
theorem srt_of1 (v : Int) : ∀ L, of1 v (srt L) = of1 v L
  | [] => rfl
  | t :: L => by
    show of1 v (insT t (srt L)) = _
    rw [insT_of1]
    have ih := srt_of1 v L
    unfold of1 at ih ⊢
    by_cases d : t.id = v
    · rw [List.filter_cons_of_pos (by simpa using d), List.filter_cons_of_pos (by simpa using d), ih]
    · rw [List.filter_cons_of_neg (by simpa using d), List.filter_cons_of_neg (by simpa using d), ih]
def Up (L : List Tk) : Prop := L.Pairwise fun a b => a.id ≤ b.id
theorem insT_up (t : Tk) : ∀ L, Up L → Up (insT t L)
  | [], _ => List.pairwise_singleton _ _
  | u :: L, h => by
    unfold insT
    obtain ⟨h1, h2⟩ := List.pairwise_cons.1 h
    by_cases c : t.id ≤ u.id
    · rw [if_pos c]
      refine List.pairwise_cons.2 ⟨fun x hx => ?_, h⟩
      rcases List.mem_cons.1 hx with rfl | hx
      · exact c
      · have := h1 x hx; omega
    · rw [if_neg c]
      refine List.pairwise_cons.2 ⟨fun x hx => ?_, insT_up t L h2⟩
      rcases List.mem_cons.1 ((insT_perm t L).mem_iff.1 hx) with rfl | hx
      · omega
      · exact h1 x hx
theorem srt_up : ∀ L, Up (srt L)
  | [] => List.Pairwise.nil
  | t :: L => insT_up t _ (srt_up L)
theorem Up.eq : ∀ {L M : List Tk}, Up L → Up M → (∀ v, of1 v L = of1 v M) → L = M
  | [], [], _, _, _ => rfl
  | [], u :: M, _, _, e => by
    have := e u.id
    unfold of1 at this
    rw [List.filter_cons_of_pos (by simp)] at this
    cases this
  | t :: L, [], _, _, e => by
    have := e t.id
    unfold of1 at this
    rw [List.filter_cons_of_pos (by simp)] at this
    cases this
  | t :: L, u :: M, hL, hM, e => by
    obtain ⟨l1, l2⟩ := List.pairwise_cons.1 hL
    obtain ⟨m1, m2⟩ := List.pairwise_cons.1 hM
    have a : t ∈ of1 t.id (u :: M) := by rw [← e]; exact of1_mem.2 ⟨List.mem_cons_self, rfl⟩
    have b : u ∈ of1 u.id (t :: L) := by rw [e]; exact of1_mem.2 ⟨List.mem_cons_self, rfl⟩
    have c : t.id = u.id := by
      have a1 := (of1_mem.1 a).1
      have b1 := (of1_mem.1 b).1
      have h1 : u.id ≤ t.id := by
        rcases List.mem_cons.1 a1 with q | q
        · rw [q]; exact Int.le_refl _
        · exact m1 t q
      have h2 : t.id ≤ u.id := by
        rcases List.mem_cons.1 b1 with q | q
        · rw [q]; exact Int.le_refl _
        · exact l1 u q
      omega
    have d := e t.id
    unfold of1 at d
    rw [List.filter_cons_of_pos (by simp), List.filter_cons_of_pos (by simpa using c.symm)] at d
    injection d with d1 d2
    subst d1
    congr 1
    refine Up.eq l2 m2 fun v => ?_
    have f := e v
    unfold of1 at f ⊢
    by_cases g : t.id = v
    · rw [List.filter_cons_of_pos (by simpa using g), List.filter_cons_of_pos (by simpa using g)] at f
      injection f
    · rw [List.filter_cons_of_neg (by simpa using g), List.filter_cons_of_neg (by simpa using g)] at f
      exact f
theorem sorted_is {L M : List Tk} (h : Rl 0 L.length L M) (s : Sd 0 L.length M) : M = srt L := by
  refine Up.eq ?_ (srt_up L) fun v => (h.stb v).trans (srt_of1 v L).symm
  unfold Up
  rw [List.pairwise_iff_getElem]
  intro i j hi hj hij
  have a := gt_get hi
  have b := gt_get hj
  rw [List.getElem?_eq_getElem hi] at a
  rw [List.getElem?_eq_getElem hj] at b
  injection a with a
  injection b with b
  rw [a, b]
  exact s i j (Nat.zero_le _) (by omega) (by rw [← h.len]; exact hj)
end Go.Proofs.Ytlgibnmoogbdcaa
