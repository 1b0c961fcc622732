/-
  The reference of layers 8 and 10 (RfL0). Conditions: what is read lies in memory.
  The reference of layers 8 and 10 (RfL1). Conditions: what is read lies in memory.
-/
import Derived.Test.YtlkoaldekmdcoaaGreatDoorQRfA
import Derived.Test.YtlkoaldekmdcoaaGreatDoorQOrd
import Derived.Test.YtlkoaldekmdcoaaGreatDoorQRefE
import Derived.Test.YtlkoaldekmdcoaaGreatDoorQRfC
import Derived.Deep.CutBlock
import Derived.Test.YtlkoaldekmdcoaaGreatDoorQRbA
namespace Go.Proofs.YtlkoaldekmdcoaaGreatDoor
open Go.RowKit Go.Lib

theorem lit_is {x : ByteArray} {l : List UInt8} (h : x = mk l) : (x.toList == l) = true := by
  rw [ByteArray.toList_eq, h, mk_list]; simp

theorem lit_isnt {x : ByteArray} {l : List UInt8} (h : x ≠ mk l) : (x.toList == l) = false := by
  have := str_ne h
  rw [ByteArray.toList_eq (mk l), mk_list] at this
  exact this

def lv0 (k : Int) : Lv := ⟨⟨#[]⟩, k, 0, 0, 0, 0, 0, 0, 0, 0⟩

/-- The box, the answer, and the level behind them. -/
structure Lx (B : Nat) (w wr : World) (C : Cf) (vL vS : Value) (V : List Value) (l : Lv) : Prop where
  x : Bx B w wr C vL vS V
  q : Blk wr (w.heap.size + 1 + 1) 40 (lvA l)
  lo : ∀ g, vL.ownBlock = some g → g < w.heap.size

theorem Lx.start {B : Nat} {w : World} {C : Cf} {vL vS : Value} {V : List Value} (hL : LvOwn B w vL C.levels) (hS : ScOwn B w vS C.schemas V) :
    Lx B w (((w.alloc (.cells #[.int .i64 C.total, .int .i64 C.period, .int .i64 C.perSeat, .int .i64 C.most, vL, vS] 25)).alloc (.cells #[.int .i64 0, .int .i64 0, .int .i64 0, .int .i64 0, .slice none 0 0, .slice none 0 0] 25)).alloc (.cells (lvA (lv0 0)) 40)) C vL vS V (lv0 0) := by
  have h := Bx.start (w := w) hL hS
  refine ⟨h.grown ((Below.refl _ _).alloc (Nat.le_refl _) _), ?_, fun g hg => (World.ownsRow.lt hL g hg).2⟩
  have := Blk.new ((w.alloc (.cells #[.int .i64 C.total, .int .i64 C.period, .int .i64 C.perSeat, .int .i64 C.most, vL, vS] 25)).alloc (.cells #[.int .i64 0, .int .i64 0, .int .i64 0, .int .i64 0, .slice none 0 0, .slice none 0 0] 25)) 40 (lvA (lv0 0))
  simpa using this

theorem Lx.grown {B : Nat} {w wr w' : World} {C : Cf} {vL vS : Value} {V : List Value} {l : Lv} (h : Lx B w wr C vL vS V l) (b : Below wr.heap.size wr w') : Lx B w w' C vL vS V l :=
  ⟨h.x.grown b, h.q.kept (Kept.of_below b (fun _ => False)) id, h.lo⟩

/-- A cell of the level is written. -/
theorem Lx.set {B : Nat} {w wr : World} {C : Cf} {vL vS : Value} {V : List Value} {l : Lv} (h : Lx B w wr C vL vS V l) (i : Nat) (v : Value) (l' : Lv) (e : (lvA l).setIfInBounds i v = lvA l') : Lx B w (wr.setCell ⟨w.heap.size + 1 + 1, i, none⟩ v) C vL vS V l' := by
  have k : Kept (fun k => k = w.heap.size + 1 + 1) wr (wr.setCell ⟨w.heap.size + 1 + 1, i, none⟩ v) := (Kept.refl (fun k => k = w.heap.size + 1 + 1) wr).setCell ⟨w.heap.size + 1 + 1, i, none⟩ v (.inl rfl)
  refine ⟨⟨h.x.bel.trans (k.below h.x.bel.size (fun j hj => by omega)), h.x.c.kept k (by omega), h.x.r.kept k (by omega), owns_kept h.x.l k (fun g hg => by have := h.lo g hg; omega), h.x.s.off k (off_blkR h.q (by decide)) (off_blkR h.q (by decide)) (off_blkR h.q (by decide))⟩, ?_, h.lo⟩
  rw [← e]
  exact h.q.set i v

def mo5 : Nat → Int
  | 0 => 64
  | 1 => 8
  | 2 => 64
  | 3 => 1000
  | _ => 1000

def nv (ws : List ByteArray) (n k : Nat) : Value := .int .i64 (if k < n then numOf (gt ws (5 + k)) 1 (mo5 k) else 0)

def nvA (ws : List ByteArray) (n : Nat) : Array Value := #[nv ws n 0, nv ws n 1, nv ws n 2, nv ws n 3, nv ws n 4]

theorem nvA_set (ws : List ByteArray) (n : Nat) (h : n < 5) : (nvA ws n).setIfInBounds n (.int .i64 (numOf (gt ws (5 + n)) 1 (mo5 n))) = nvA ws (n + 1) := by
  match n, h with
  | 0, _ => simp [nvA, nv]
  | 1, _ => simp [nvA, nv]
  | 2, _ => simp [nvA, nv]
  | 3, _ => simp [nvA, nv]
  | 4, _ => simp [nvA, nv]

theorem nvA_at (ws : List ByteArray) (n : Nat) (h : n < 5) : (nvA ws n)[n]? = some (.int .i64 0) := by
  match n, h with
  | 0, _ => simp [nvA, nv]
  | 1, _ => simp [nvA, nv]
  | 2, _ => simp [nvA, nv]
  | 3, _ => simp [nvA, nv]
  | 4, _ => simp [nvA, nv]

def moA : Array Value := #[.int .i64 64, .int .i64 8, .int .i64 64, .int .i64 1000, .int .i64 1000]

theorem moA_at (n : Nat) (h : n < 5) : moA[n]? = some (.int .i64 (mo5 n)) := by
  match n, h with
  | 0, _ => rfl
  | 1, _ => rfl
  | 2, _ => rfl
  | 3, _ => rfl
  | 4, _ => rfl

theorem queue_bad {ws : List ByteArray} {k : Nat} (hk : k < 5) (h : numIn (gt ws (5 + k)) 1 (mo5 k) = false) : queueE ws 0 = 8 := by
  have key : ∀ (e x : Int) (b : Bool), (e = 0 ∨ e = 8) → (mu e (ifE b 8) = 0 ∨ mu e (ifE b 8) = 8) ∧ (e = 8 → mu e (ifE b 8) = 8) ∧ (b = false → mu e (ifE b 8) = 8) := by
    intro e x b he
    rcases he with rfl | rfl <;> cases b <;> simp [mu, ifE]
  unfold queueE
  have k1 := key 0 0 (numIn (gt ws 5) 1 64) (.inl rfl)
  have k2 := key _ 0 (numIn (gt ws 6) 1 8) k1.1
  have k3 := key _ 0 (numIn (gt ws 7) 1 64) k2.1
  have k4 := key _ 0 (numIn (gt ws 8) 1 1000) k3.1
  have k5 := key _ 0 (numIn (gt ws 9) 1 1000) k4.1
  match k, hk, h with
  | 0, _, h => exact k5.2.1 (k4.2.1 (k3.2.1 (k2.2.1 (k1.2.2 h))))
  | 1, _, h => exact k5.2.1 (k4.2.1 (k3.2.1 (k2.2.2 h)))
  | 2, _, h => exact k5.2.1 (k4.2.1 (k3.2.2 h))
  | 3, _, h => exact k5.2.1 (k4.2.2 h)
  | 4, _, h => exact k5.2.2 h

/-- .. with the two arrays of five. -/
structure L5 (B : Nat) (w wr : World) (C : Cf) (vL vS : Value) (V : List Value) (l : Lv) (g : Nat) (ws : List ByteArray) (k : Nat) : Prop where
  lx : Lx B w wr C vL vS V l
  a1 : Blk wr g 137 (nvA ws k)
  a2 : Blk wr (g + 1) 137 moA
  le : w.heap.size ≤ g
  ok : ∀ j, j < k → numIn (gt ws (5 + j)) 1 (mo5 j) = true

theorem L5.grown {B : Nat} {w wr w' : World} {C : Cf} {vL vS : Value} {V : List Value} {l : Lv} {g : Nat} {ws : List ByteArray} {k : Nat} (h : L5 B w wr C vL vS V l g ws k) (b : Below wr.heap.size wr w') : L5 B w w' C vL vS V l g ws k :=
  ⟨h.lx.grown b, h.a1.kept (Kept.of_below b (fun _ => False)) id, h.a2.kept (Kept.of_below b (fun _ => False)) id, h.le, h.ok⟩

theorem Lx.far {B : Nat} {w wr : World} {C : Cf} {vL vS : Value} {V : List Value} {l : Lv} (h : Lx B w wr C vL vS V l) {g : Nat} {cs : Array Value} (hg : Blk wr g 137 cs) (hw : w.heap.size ≤ g) (i : Nat) (v : Value) : Lx B w (wr.setCell ⟨g, i, none⟩ v) C vL vS V l := by
  have k : Kept (fun k => k = g) wr (wr.setCell ⟨g, i, none⟩ v) := (Kept.refl (fun k => k = g) wr).setCell ⟨g, i, none⟩ v (.inl rfl)
  have o : ∀ t, 137 ≠ t → OffR t (fun k => k = g) wr := fun t ht => off_blkR hg ht
  exact ⟨⟨h.x.bel.trans (k.below h.x.bel.size (fun j hj => by omega)), h.x.c.off k (o 25 (by decide)), h.x.r.off k (o 25 (by decide)), h.x.l.off k (o 40 (by decide)), h.x.s.off k (o 9 (by decide)) (o 46 (by decide)) (o 51 (by decide))⟩, h.q.off k (o 40 (by decide)), h.lo⟩

theorem L5.next {B : Nat} {w wr : World} {C : Cf} {vL vS : Value} {V : List Value} {l : Lv} {g : Nat} {ws : List ByteArray} {k : Nat} (h : L5 B w wr C vL vS V l g ws k) (hk : k < 5) (hn : numIn (gt ws (5 + k)) 1 (mo5 k) = true) :
    L5 B w (wr.setCell ⟨g, k, none⟩ (.int .i64 (numOf (gt ws (5 + k)) 1 (mo5 k)))) C vL vS V l g ws (k + 1) := by
  refine ⟨h.lx.far h.a1 h.le _ _, ?_, h.a2.other (by show g + 1 ≠ g; omega) _, h.le, fun j hj => ?_⟩
  · rw [← nvA_set ws k hk]
    exact h.a1.set k _
  · rcases Nat.lt_or_eq_of_le (Nat.le_of_lt_succ hj) with h' | h'
    · exact h.ok j h'
    · subst h'; exact hn

theorem Lx.five {B : Nat} {w wr : World} {C : Cf} {vL vS : Value} {V : List Value} {l : Lv} (h : Lx B w wr C vL vS V l) (ws : List ByteArray) :
    L5 B w ((wr.alloc (.cells #[.int .i64 0, .int .i64 0, .int .i64 0, .int .i64 0, .int .i64 0] 137)).alloc (.cells #[.int .i64 64, .int .i64 8, .int .i64 64, .int .i64 1000, .int .i64 1000] 137)) C vL vS V l wr.heap.size ws 0 := by
  have b1 : Below wr.heap.size wr (wr.alloc (.cells #[.int .i64 0, .int .i64 0, .int .i64 0, .int .i64 0, .int .i64 0] 137)) := (Below.refl _ _).alloc (Nat.le_refl _) _
  have b2 : Below (wr.alloc (.cells #[.int .i64 0, .int .i64 0, .int .i64 0, .int .i64 0, .int .i64 0] 137)).heap.size (wr.alloc (.cells #[.int .i64 0, .int .i64 0, .int .i64 0, .int .i64 0, .int .i64 0] 137)) ((wr.alloc (.cells #[.int .i64 0, .int .i64 0, .int .i64 0, .int .i64 0, .int .i64 0] 137)).alloc (.cells moA 137)) := (Below.refl _ _).alloc (Nat.le_refl _) _
  have n1 := (Blk.new wr 137 #[.int .i64 0, .int .i64 0, .int .i64 0, .int .i64 0, .int .i64 0]).kept (Kept.of_below b2 (fun _ => False)) id
  have n2 := Blk.new (wr.alloc (.cells #[.int .i64 0, .int .i64 0, .int .i64 0, .int .i64 0, .int .i64 0] 137)) 137 moA
  have e2 : (wr.alloc (.cells #[.int .i64 0, .int .i64 0, .int .i64 0, .int .i64 0, .int .i64 0] 137)).heap.size = wr.heap.size + 1 := by simp
  rw [e2] at n2
  exact ⟨(h.grown b1).grown b2, n1, n2, h.x.bel.size, fun j hj => absurd hj (Nat.not_lt_zero _)⟩

theorem level_queue {ws : List ByteArray} (k : kindW ws = 3) (hn : isName (gt ws 0) = true) (h1 : numIn (gt ws 1) 0 10000 = true) (h2 : numIn (gt ws 2) 0 100 = true) (h3 : borrowOk (gt ws 3) = true) : levelW ws = queueE ws 0 := by
  unfold levelW numsE
  rw [k, hn, h1, h2, h3]
  rfl

end Go.Proofs.YtlkoaldekmdcoaaGreatDoor

namespace Go.Proofs.YtlkoaldekmdcoaaGreatDoor
open Go.RowKit Go.Lib

set_option maxRecDepth 20000 in
set_option maxHeartbeats 8000000 in
theorem rlevel_1 {B : Nat} (b off c : Nat) (x1 x2 : ByteArray) (w : World) (C : Cf) (vL vS : Value) (V : List Value) (hL : LvOwn B w vL C.levels) (hS : ScOwn B w vS C.schemas V) (hb : b < w.heap.size)
    (h1 : w.cell? ⟨b, off + 1, none⟩ = some (.string x1)) (h2 : w.cell? ⟨b, off + 2, none⟩ = some (.string x2))
    (z1 : x1.size ≤ 65536) (hk : x2 = tExempt) (hnl : C.levels.length ≤ 16) (hB : B ≤ w.heap.size) :
    Calls Tryz.prog 79 #[.agg #[.int .i64 C.total, .int .i64 C.period, .int .i64 C.perSeat, .int .i64 C.most, vL, vS], .slice (some ⟨b, off, none⟩) 3 c] w fun e w' => ∃ v, e = .returned (.tuple #[v, .int .i64 (levelE C [x1, x2])]) ∧ Below w.heap.size w w' ∧ Six v
      ∧ (levelE C [x1, x2] = 0 → CfV B w' v ⟨C.total, C.period, C.perSeat, C.most, C.levels ++ [levelOf [x1, x2]], C.schemas⟩) := by
  have N1 := fun W => rname_ok x1 (by omega) W
  have X0 : Hd _ := ⟨Lx.start hL hS⟩
  obtain ⟨aL, cL, rfl⟩ := own_form hL
  obtain ⟨aS, cS, rfl⟩ := own_form hS.own
  clear hL hS
  have KW : Hd (kindW [x1, x2] = 1) := ⟨by simp [kindW, gt, hk]⟩
  have tk := lit_is (l := [101, 120, 101, 109, 112, 116]) hk
  have HK9 : Hd (x2 = tExempt) := ⟨hk⟩
  clear hk
  generalize hE : levelE C [x1, x2] = E
  generalize hO : levelOf [x1, x2] = l
  have HE : Hd (levelE C [x1, x2] = E ∧ levelOf [x1, x2] = l) := ⟨hE, hO⟩
  clear hE hO
  go_enter Tryz.func79, Tryz.ntmps79
  go_upto_region 3 with fail
  generalize hw2 : World.alloc _ _ = w2
  have X2 : Hd (Lx B w w2 C (.slice aL C.levels.length cL) (.slice aS C.schemas.length cS) V (lv0 0)) := ⟨by rw [← hw2]; exact X0.out⟩
  clear hw2 X0
  have k1 := X2.out.q.cellv (v := .int .i64 0) 1 rfl
  have k2 := X2.out.q.frozen 1
  have d1 := (X2.out.x.bel.cell (p := ⟨b, off + 1, none⟩) hb).trans h1
  have d2 := (X2.out.x.bel.cell (p := ⟨b, off + 2, none⟩) hb).trans h2
  go_wp2_with fail
  generalize hw3 : World.setCell _ _ _ = w3
  have X3 : Hd (Lx B w w3 C (.slice aL C.levels.length cL) (.slice aS C.schemas.length cS) V (lv0 1)) := ⟨by rw [← hw3]; exact X2.out.set 1 _ _ rfl⟩
  clear hw3 X2 k1 k2 d1 d2
  have c1 := (X3.out.x.bel.cell (p := ⟨b, off + 1, none⟩) hb).trans h1
  have c2 := (X3.out.x.bel.cell (p := ⟨b, off + 2, none⟩) hb).trans h2
  have HB : Hd (b < w.heap.size ∧ w.cell? ⟨b, off + 1, none⟩ = some (.string x1) ∧ w.cell? ⟨b, off + 2, none⟩ = some (.string x2)) := ⟨hb, h1, h2⟩
  clear h1 h2 hb
  have m0 := X3.out.q.cellv (v := .string ⟨#[]⟩) 0 rfl
  have m1 := X3.out.q.cellv (v := .int .i64 1) 1 rfl
  have g0 := X3.out.q.frozen 0
  cases e1 : isName x1 with
  | false =>
    rw [e1] at N1
    go_at_call 99
    refine (N1 _).mono ?_
    rintro e w' ⟨rfl, hw⟩
    obtain rfl := hw.symm
    obtain ⟨y0, y1, y2, y3, y4, y5⟩ := X3.out.x.reads
    obtain ⟨r0, r1, r2, r3, r4, r5, f0, f1, f2, f3, f4, f5⟩ := X3.out.x.room
    go_wp2_with fail
    have EE : E = 4 := by rw [← HE.out.1]; simp [levelE, levelW, kindW, gt, mu, ifE, e1, HK9.out]
    subst EE
    obtain ⟨q1, q2, q3⟩ := X3.out.x.sets (.int .i64 C.total) (.int .i64 C.period) (.int .i64 C.perSeat) (.int .i64 C.most) (.slice aL C.levels.length cL) (.slice aS C.schemas.length cS)
    refine bodyPost_ret (resC36 _ _ _ _ _ _ _ _ _ _ rfl rfl q1) rfl ?_
    exact ⟨_, rfl, q2, ⟨_, _, _, _, _, _, _, _, _, _, rfl⟩, fun h => absurd h (by decide)⟩
  | true =>
    rw [e1] at N1
    go_at_call 99
    refine (N1 _).mono ?_
    rintro e w' ⟨rfl, hw⟩
    obtain rfl := hw.symm
    have HN1 : Hd (isName x1 = true) := ⟨e1⟩
    clear e1 N1
    go_wp2_with fail
    generalize hw5 : World.setCell _ _ _ = w5
    have X5 : Lx B w w5 C (.slice aL C.levels.length cL) (.slice aS C.schemas.length cS) V ⟨x1, 1, 0, 0, 0, 0, 0, 0, 0, 0⟩ := by rw [← hw5]; exact X3.out.set 0 _ ⟨x1, 1, 0, 0, 0, 0, 0, 0, 0, 0⟩ rfl
    clear hw5 X3 m0 m1 g0 c1 c2
    have HL0 : Hd (l = ⟨x1, 1, 0, 0, 0, 0, 0, 0, 0, 0⟩) := ⟨by rw [← HE.out.2]; unfold levelOf; simp [KW.out, gt]⟩
    have H0 : Hd (levelE C [x1, x2] = mu (ifE (!hasLv C l.name) 5) (ifE (decide ((C.levels.length : Int) < 16)) 3)) := ⟨by rw [HL0.out]; simp [levelE, levelW, KW.out, gt, HN1.out, mu, ifE]⟩
    obtain ⟨n, hn⟩ : ∃ n, n = C.levels.length := ⟨_, rfl⟩
    have HN : Hd (n = C.levels.length ∧ n ≤ 16) := ⟨hn, by omega⟩
    have hY : Hd (Lx B w w5 C (.slice aL n cL) (.slice aS C.schemas.length cS) V l) := ⟨by rw [hn, HL0.out]; exact X5⟩
    rw [← hn]
    clear hn HL0
    clear X5
    go_loopw [18] (fun i wr => ∃ j : Nat, j ≤ n ∧ i = .int .i64 j ∧ Hd ((∀ q (h : q < C.levels.length), q < j → C.levels[q].name ≠ l.name) ∧ Lx B w wr C (.slice aL n cL) (.slice aS C.schemas.length cS) V l)) (fun i _ => n - (intOf i).toNat)
    case atStart => exact ⟨0, Nat.zero_le _, rfl, ⟨fun _ _ h => absurd h (Nat.not_lt_zero _), hY.out⟩⟩
    case round =>
      obtain ⟨j, hj, rfl, hJ⟩ := hrel
      obtain ⟨y0, y1, y2, y3, y4, y5⟩ := hJ.out.2.x.reads
      have cq : wr.cell? ⟨w.heap.size + 1 + 1, 0, none⟩ = some (.string l.name) := hJ.out.2.q.cellv 0 rfl
      by_cases hlt : j < n
      · have hjL : j < C.levels.length := by rw [← HN.out.1]; exact hlt
        have hs := hJ.out.2.x.l
        rw [HN.out.1] at hs
        obtain ⟨g1, rfl, hg1, C1⟩ := lv_rd hs (by omega)
        have cn : wr.cell? ⟨g1, j * 10, none⟩ = some (.string C.levels[j].name) := C1 j hjL 0 (by decide)
        have HK : Hd (j < n) := ⟨hlt⟩
        have n32 := HN.out.2
        have i1 : (j : Int) < (n : Int) := by omega
        by_cases hxy : C.levels[j].name = l.name
        · have E5 : E = 5 := by rw [← HE.out.1, H0.out]; simp [hasLv_yes hjL hxy, mu, ifE]
          subst E5
          rw [hxy] at cn
          clear hxy hjL C1 hs
          generalize l.name = x1 at *
          have ee : (x1.toList == x1.toList) = true := by simp
          go_wp2_with fail
          go_big_quiet (fail)
          generalize hwd : wr.drewN _ = wd
          have hZ : Lx B w wd C (.slice (some ⟨g1, 0, none⟩) n cL) (.slice aS C.schemas.length cS) V l := by rw [← hwd]; exact hJ.out.2.grown (below_drew _ _)
          clear hwd cn cq
          obtain ⟨y0, y1, y2, y3, y4, y5⟩ := hZ.x.reads
          obtain ⟨r0, r1, r2, r3, r4, r5, f0, f1, f2, f3, f4, f5⟩ := hZ.x.room
          go_wp2_with fail
          obtain ⟨q1, q2, q3⟩ := hZ.x.sets (.int .i64 C.total) (.int .i64 C.period) (.int .i64 C.perSeat) (.int .i64 C.most) (.slice (some ⟨g1, 0, none⟩) n cL) (.slice aS C.schemas.length cS)
          refine bodyPost_ret (resC36 _ _ _ _ _ _ _ _ _ _ rfl rfl q1) rfl ?_
          exact ⟨_, rfl, q2, ⟨_, _, _, _, _, _, _, _, _, _, rfl⟩, fun h => absurd h (by decide)⟩
        · have HQ : Hd (∀ q (h : q < C.levels.length), q < j + 1 → C.levels[q].name ≠ l.name) := ⟨fun q hq h => by
            rcases Nat.lt_or_eq_of_le (Nat.le_of_lt_succ h) with h' | h'
            · exact hJ.out.1 q hq h'
            · subst h'; exact hxy⟩
          have ee := str_ne hxy
          generalize C.levels[j].name = y at *
          clear hxy hjL C1 hs
          go_wp2_with fail
          go_big_quiet (fail)
          go_wp2
          go_roundw
          case rel => exact ⟨j + 1, HK.out, by go_num, ⟨HQ.out, hJ.out.2.grown (below_drew _ _)⟩⟩
          case measure => have := HK.out; simp [intOf]; omega
      · obtain rfl : j = n := by omega
        have hno := hasLv_no (C := C) (x := l.name) (fun q h => hJ.out.1 q h (by rw [HN.out.1]; exact h))
        have HS0 : Hd (E = ifE (decide ((C.levels.length : Int) < 16)) 3) := ⟨by rw [← HE.out.1, H0.out]; simp [hno, mu, ifE]⟩
        by_cases h32 : j = 16
        · obtain ⟨r0, r1, r2, r3, r4, r5, f0, f1, f2, f3, f4, f5⟩ := hJ.out.2.x.room
          have E3 : E = 3 := by rw [HS0.out, ← HN.out.1, h32]; decide
          subst E3
          have gg : decide ((j : Int) ≥ 16) = true := by rw [h32]; decide
          clear h32
          go_wp2_with fail
          obtain ⟨q1, q2, q3⟩ := hJ.out.2.x.sets (.int .i64 C.total) (.int .i64 C.period) (.int .i64 C.perSeat) (.int .i64 C.most) (.slice aL j cL) (.slice aS C.schemas.length cS)
          refine bodyPost_ret (resC36 _ _ _ _ _ _ _ _ _ _ rfl rfl q1) rfl ?_
          exact ⟨_, rfl, q2, ⟨_, _, _, _, _, _, _, _, _, _, rfl⟩, fun h => absurd h (by decide)⟩
        · have gg : decide ((j : Int) ≥ 16) = false := by have := HN.out.2; simp; omega
          have HJ : Hd (j < 16) := ⟨by have := HN.out.2; omega⟩
          clear h32 hno
          go_wp2_with fail
          clear gg
          have aW : w.heap.size < wr.heap.size := hJ.out.2.x.c.lt
          have TT : ∀ W, Below wr.heap.size wr W → Blk W (w.heap.size + 1 + 1) 40 (lvA l) ∧ W.cell? ⟨w.heap.size, 4, none⟩ = some (.slice aL j cL) := fun W hW => ⟨hJ.out.2.q.kept (Kept.of_below hW (fun _ => False)) id, (hW.cell (p := ⟨w.heap.size, 4, none⟩) aW).trans y4⟩
          have OWN : ∀ W, Below wr.heap.size wr W → W.ownsRow B 40 10 (.slice aL j cL) j (lvCs C.levels) := fun W hW => by
            have h1 : wr.ownsRow B 40 10 _ _ _ := hJ.out.2.x.l
            rw [← HN.out.1] at h1
            exact owns_kept h1 (Kept.of_below hW (fun _ => False)) (fun _ _ => id)
          have ONES := lvCs_ones C.levels
          have BW : B ≤ wr.heap.size := Nat.le_trans hB (Nat.le_of_lt aW)
          have j32 := HJ.out
          obtain ⟨i0, hi, hz0, hz1, hz2⟩ := info_parts info39
          have ONE : ∀ u ∈ ([.string l.name, .int .i64 l.kind, .int .i64 l.shares, .int .i64 l.lend, .int .i64 l.borrow, .int .i64 l.queues, .int .i64 l.hand, .int .i64 l.length, .int .i64 l.wait, .int .i64 l.guess] : List Value), u.oneCell' = true := lvC_ones l
          have FIN : Hd (∀ q cap W, W.ownsRow B 40 10 (.slice (some ⟨q, 0, none⟩) (j + 1) cap) (j + 1) (lvCs C.levels ++ [.string l.name, .int .i64 l.kind, .int .i64 l.shares, .int .i64 l.lend, .int .i64 l.borrow, .int .i64 l.queues, .int .i64 l.hand, .int .i64 l.length, .int .i64 l.wait, .int .i64 l.guess]) → Below wr.heap.size wr W → Bx B w (W.setCell ⟨w.heap.size, 4, none⟩ (.slice (some ⟨q, 0, none⟩) (j + 1) cap)) ⟨C.total, C.period, C.perSeat, C.most, C.levels ++ [l], C.schemas⟩ (.slice (some ⟨q, 0, none⟩) (j + 1) cap) (.slice aS C.schemas.length cS) V) := ⟨fun q cap W hO hW => by
            rw [HN.out.1] at hO ⊢
            exact Bx.lv (hJ.out.2.x.grown hW) hO⟩
          have ROOM : Hd (∀ W, Below wr.heap.size wr W → W.cell? ⟨w.heap.size, 4, none⟩ = some (.slice aL j cL) ∧ W.frozen? ⟨w.heap.size, 4, none⟩ = false) := ⟨fun W hW => ⟨(TT W hW).2, (hJ.out.2.x.grown hW).c.frozen 4⟩⟩
          have hbA : w.heap.size + 1 + 1 ≠ w.heap.size := by omega
          have HEND : Hd (∀ (v : Value) (W W' : World), Blk W' (w.heap.size + 1) 25 #[.int .i64 C.total, .int .i64 C.period, .int .i64 C.perSeat, .int .i64 C.most, v, .slice aS C.schemas.length cS] → Below w.heap.size w W' → Kept (fun k => k = w.heap.size + 1) W W' → Bx B w W ⟨C.total, C.period, C.perSeat, C.most, C.levels ++ [l], C.schemas⟩ v (.slice aS C.schemas.length cS) V →
              ∃ v', Ending.returned (.tuple #[.agg #[.int .i64 C.total, .int .i64 C.period, .int .i64 C.perSeat, .int .i64 C.most, v, .slice aS C.schemas.length cS], .int .i64 0]) = Ending.returned (.tuple #[v', .int .i64 E]) ∧ Below w.heap.size w W' ∧ Six v' ∧ (E = 0 → CfV B W' v' ⟨C.total, C.period, C.perSeat, C.most, C.levels ++ [l], C.schemas⟩)) := ⟨fun v W W' _ q2 q3 X9 => by
            have E0 : E = 0 := by rw [HS0.out, ← HN.out.1]; have := HJ.out; simp [ifE]; omega
            subst E0
            have cf : CfV B W' (.agg #[.int .i64 C.total, .int .i64 C.period, .int .i64 C.perSeat, .int .i64 C.most, v, .slice aS C.schemas.length cS]) ⟨C.total, C.period, C.perSeat, C.most, C.levels ++ [l], C.schemas⟩ := ⟨_, _, V, rfl, X9.l.off q3 (off_blkR X9.r (by decide)), X9.s.off q3 (off_blkR X9.r (by decide)) (off_blkR X9.r (by decide)) (off_blkR X9.r (by decide))⟩
            exact ⟨_, rfl, q2, cf.six, fun _ => cf⟩⟩
          refine AnyG.start (T := fun w' => Blk w' (w.heap.size + 1 + 1) 40 (lvA l)) (U := fun w' => w'.cell? ⟨w.heap.size, 4, none⟩ = some (.slice aL j cL)) (j0 := 3) (by kernel_rfl) ?_
          have bel0 : Below wr.heap.size wr wr.drew := ⟨rfl, rfl, rfl, Nat.le_refl _, fun _ _ => rfl⟩
          generalize wr.drew = w0 at *
          have h0 := TT w0 bel0
          refine .tk 1 172 rfl rfl (by kernel_rfl) (fun _ _ _ h => h) ⟨h0.1, fun _ => h0.2⟩ (by rfl) (fun w hSw => by go_simp; rfl) ?_; simp only [tkA, tkB, tkC]
          refine .ek 2 173 rfl rfl (by kernel_rfl) (fun _ _ _ h => h) ⟨h0.1, fun _ => h0.2⟩ (by rfl) (fun w hSw => by obtain ⟨s1, s3⟩ := hSw; go_simp; rfl) ?_; simp only [tkA, tkB, tkC]
          refine .tk 4 175 rfl rfl (by kernel_rfl) (fun _ _ _ h => h) ⟨h0.1, fun _ => h0.2⟩ (by rfl) (fun w hSw => by have s0 := hSw.cellv (v := .string l.name) 0 rfl; have s1 := hSw.cellv (v := .int .i64 l.kind) 1 rfl; have s2 := hSw.cellv (v := .int .i64 l.shares) 2 rfl; have s3 := hSw.cellv (v := .int .i64 l.lend) 3 rfl; have s4 := hSw.cellv (v := .int .i64 l.borrow) 4 rfl; have s5 := hSw.cellv (v := .int .i64 l.queues) 5 rfl; have s6 := hSw.cellv (v := .int .i64 l.hand) 6 rfl; have s7 := hSw.cellv (v := .int .i64 l.length) 7 rfl; have s8 := hSw.cellv (v := .int .i64 l.wait) 8 rfl; have s9 := hSw.cellv (v := .int .i64 l.guess) 9 rfl; go_simp; rfl) ?_; simp only [tkA, tkB, tkC]
          refine AnyG.ready (rs := [0, 5]) (by kernel_rfl) (by simp) ?_
          refine AllG.cons rfl (fun K hK => ?_) (AllG.cons rfl (fun K hK => ?_) AllG.nil)
          · skip
            go_simp
            have bn1 : Below wr.heap.size wr (w0.alloc (.cells #[] 40)) := bel0.alloc bel0.size _
            refine hK.out _ _ ⟨(TT _ bn1).1, fun _ => (TT _ bn1).2⟩ ?_
            clear hK K
            have hn1 : Blk (w0.alloc (.cells #[] 40)) w0.heap.size 40 #[] := Blk.new w0 40 _
            have hb1 : wr.heap.size ≤ w0.heap.size := bel0.size
            generalize w0.alloc (.cells #[] 40) = wa1 at *
            generalize w0.heap.size = qa1 at *
            refine AnyG.ready (rs := [3, 5]) (by kernel_rfl) (by simp) ?_
            refine AllG.cons rfl (fun K hK => ?_) (AllG.cons rfl (fun K hK => ?_) AllG.nil)
            · skip
              refine step_copy rfl (.tmp 171) (.tmp 173) 22 rfl wr.heap.size 40 i0 (.agg #[.string ⟨#[]⟩, .int .i64 0, .int .i64 0, .int .i64 0, .int .i64 0, .int .i64 0, .int .i64 0, .int .i64 0, .int .i64 0, .int .i64 0]) 10 88 Tryz.underlying22 hi hz0 hz1 hz2 rfl (by decide) qa1 (by simp [Act.eval]) hn1 hb1 B aL j cL (by simp [Act.eval]) (lvCs C.levels) (OWN _ bn1) ONES (by unfold maxLen; omega) (by omega) ?_
              intro g2 cap2 wc2 own2 gr2 lt2
              have bc2 : Below wr.heap.size wr wc2 := bn1.grown gr2 bn1.size (fun k hk => by injection hk with hk; have := hb1; omega)
              refine hK.out _ _ ⟨(TT _ bc2).1, fun _ => (TT _ bc2).2⟩ ?_
              clear hK K
              refine AnyG.putAt 174 rfl ?_
              simp only [List.setIfInBounds_toArray, List.set_cons_zero, List.set_cons_succ]
              refine AnyG.ready (rs := [5]) (by kernel_rfl) (by simp) ?_
              refine AllG.cons rfl (fun K hK => ?_) AllG.nil
              go_simp
              have bn3 : Below wr.heap.size wr (wc2.alloc (.cells #[.string l.name, .int .i64 l.kind, .int .i64 l.shares, .int .i64 l.lend, .int .i64 l.borrow, .int .i64 l.queues, .int .i64 l.hand, .int .i64 l.length, .int .i64 l.wait, .int .i64 l.guess] 40)) := bc2.alloc bc2.size _
              refine hK.out _ _ ⟨(TT _ bn3).1, fun _ => (TT _ bn3).2⟩ ?_
              clear hK K
              have hn3 : Blk (wc2.alloc (.cells #[.string l.name, .int .i64 l.kind, .int .i64 l.shares, .int .i64 l.lend, .int .i64 l.borrow, .int .i64 l.queues, .int .i64 l.hand, .int .i64 l.length, .int .i64 l.wait, .int .i64 l.guess] 40)) wc2.heap.size 40 #[.string l.name, .int .i64 l.kind, .int .i64 l.shares, .int .i64 l.lend, .int .i64 l.borrow, .int .i64 l.queues, .int .i64 l.hand, .int .i64 l.length, .int .i64 l.wait, .int .i64 l.guess] := Blk.new wc2 40 _
              have hb3 : wr.heap.size ≤ wc2.heap.size := bc2.size
              have ho3 := World.ownsRow.alloc own2 (.cells #[.string l.name, .int .i64 l.kind, .int .i64 l.shares, .int .i64 l.lend, .int .i64 l.borrow, .int .i64 l.queues, .int .i64 l.hand, .int .i64 l.length, .int .i64 l.wait, .int .i64 l.guess] 40)
              generalize wc2.alloc (.cells #[.string l.name, .int .i64 l.kind, .int .i64 l.shares, .int .i64 l.lend, .int .i64 l.borrow, .int .i64 l.queues, .int .i64 l.hand, .int .i64 l.length, .int .i64 l.wait, .int .i64 l.guess] 40) = wa3 at *
              generalize wc2.heap.size = pa3 at *
              refine AnyG.ready (rs := [6]) (by kernel_rfl) (by simp) ?_
              refine AllG.cons rfl (fun K hK => ?_) AllG.nil
              refine step_append_lies wa3 rfl (.tmp 174) (.tmp 176) 22 rfl wr.heap.size 40 i0 (.agg #[.string ⟨#[]⟩, .int .i64 0, .int .i64 0, .int .i64 0, .int .i64 0, .int .i64 0, .int .i64 0, .int .i64 0, .int .i64 0, .int .i64 0]) 10 88 Tryz.underlying22 hi hz0 hz1 hz2 rfl (by decide) _ j (lvCs C.levels) (by simp [Act.eval]) ho3 ⟨pa3, 0, none⟩ 1 1 [.string l.name, .int .i64 l.kind, .int .i64 l.shares, .int .i64 l.lend, .int .i64 l.borrow, .int .i64 l.queues, .int .i64 l.hand, .int .i64 l.length, .int .i64 l.wait, .int .i64 l.guess] (by simp [Act.eval]) rfl (World.news_of_block hn3) ONE (by decide) (by unfold maxLen; omega) (by omega) bn3.size _ rfl ?_
              intro q8 cap8 w8 hown hgrow hat hlt
              have b8 : Below wr.heap.size wr w8 := bn3.grown hgrow bn3.size (fun k hk => (ho3.lt k hk).1)
              refine hK.out _ _ ⟨(TT _ b8).1, fun _ => (TT _ b8).2⟩ ?_
              clear hK K
              refine AnyG.putAt 177 rfl ?_
              simp only [List.setIfInBounds_toArray, List.set_cons_zero, List.set_cons_succ]
              have h8 := TT w8 b8
              refine .tk 7 178 rfl rfl (by kernel_rfl) (fun _ _ _ h => h) ⟨h8.1, fun _ => h8.2⟩ (by rfl) (fun w hSw => by go_simp; rfl) ?_; simp only [tkA, tkB, tkC]
              refine AnyG.ready (rs := [8]) (by kernel_rfl) (by simp) ?_
              refine AllG.cons rfl (fun K hK => ?_) AllG.nil
              obtain ⟨e8, f8⟩ := ROOM.out w8 b8
              have X9 := FIN.out q8 cap8 w8 (owns_mono hown BW) b8
              go_simp
              refine hK.out _ _ ⟨h8.1.other hbA _, fun h => by cases h⟩ ?_
              clear hK K
              refine AnyG.done (by kernel_rfl) ?_ _
              generalize w8.setCell _ _ = w9 at *
              obtain ⟨y0, y1, y2, y3, y4, y5⟩ := X9.reads
              obtain ⟨r0, r1, r2, r3, r4, r5, f0, f1, f2, f3, f4, f5⟩ := X9.room
              clear TT OWN ONES ROOM FIN h8 e8 f8 hown hgrow
              go_wp2_with fail
              obtain ⟨q1, q2, q3⟩ := X9.sets (.int .i64 C.total) (.int .i64 C.period) (.int .i64 C.perSeat) (.int .i64 C.most) (.slice (some ⟨q8, 0, none⟩) (j + 1) cap8) (.slice aS C.schemas.length cS)
              refine bodyPost_ret (resC36 _ _ _ _ _ _ _ _ _ _ rfl rfl q1) rfl ?_
              exact HEND.out _ _ _ q1 q2 q3 X9
            · skip
              go_simp
              have bn4 : Below wr.heap.size wr (wa1.alloc (.cells #[.string l.name, .int .i64 l.kind, .int .i64 l.shares, .int .i64 l.lend, .int .i64 l.borrow, .int .i64 l.queues, .int .i64 l.hand, .int .i64 l.length, .int .i64 l.wait, .int .i64 l.guess] 40)) := bn1.alloc bn1.size _
              refine hK.out _ _ ⟨(TT _ bn4).1, fun _ => (TT _ bn4).2⟩ ?_
              clear hK K
              have hn4 : Blk (wa1.alloc (.cells #[.string l.name, .int .i64 l.kind, .int .i64 l.shares, .int .i64 l.lend, .int .i64 l.borrow, .int .i64 l.queues, .int .i64 l.hand, .int .i64 l.length, .int .i64 l.wait, .int .i64 l.guess] 40)) wa1.heap.size 40 #[.string l.name, .int .i64 l.kind, .int .i64 l.shares, .int .i64 l.lend, .int .i64 l.borrow, .int .i64 l.queues, .int .i64 l.hand, .int .i64 l.length, .int .i64 l.wait, .int .i64 l.guess] := Blk.new wa1 40 _
              have hb4 : wr.heap.size ≤ wa1.heap.size := bn1.size
              have hc4 := hn1.kept (Kept.of_below ((Below.refl wa1.heap.size wa1).alloc (Nat.le_refl _) (.cells #[.string l.name, .int .i64 l.kind, .int .i64 l.shares, .int .i64 l.lend, .int .i64 l.borrow, .int .i64 l.queues, .int .i64 l.hand, .int .i64 l.length, .int .i64 l.wait, .int .i64 l.guess] 40)) (fun _ => False)) id
              generalize wa1.alloc (.cells #[.string l.name, .int .i64 l.kind, .int .i64 l.shares, .int .i64 l.lend, .int .i64 l.borrow, .int .i64 l.queues, .int .i64 l.hand, .int .i64 l.length, .int .i64 l.wait, .int .i64 l.guess] 40) = wa4 at *
              generalize wa1.heap.size = pa4 at *
              refine AnyG.ready (rs := [3]) (by kernel_rfl) (by simp) ?_
              refine AllG.cons rfl (fun K hK => ?_) AllG.nil
              refine step_copy rfl (.tmp 171) (.tmp 173) 22 rfl wr.heap.size 40 i0 (.agg #[.string ⟨#[]⟩, .int .i64 0, .int .i64 0, .int .i64 0, .int .i64 0, .int .i64 0, .int .i64 0, .int .i64 0, .int .i64 0, .int .i64 0]) 10 88 Tryz.underlying22 hi hz0 hz1 hz2 rfl (by decide) qa1 (by simp [Act.eval]) hc4 hb1 B aL j cL (by simp [Act.eval]) (lvCs C.levels) (OWN _ bn4) ONES (by unfold maxLen; omega) (by omega) ?_
              intro g5 cap5 wc5 own5 gr5 lt5
              have bc5 : Below wr.heap.size wr wc5 := bn4.grown gr5 bn4.size (fun k hk => by injection hk with hk; have := hb1; omega)
              refine hK.out _ _ ⟨(TT _ bc5).1, fun _ => (TT _ bc5).2⟩ ?_
              clear hK K
              refine AnyG.putAt 174 rfl ?_
              simp only [List.setIfInBounds_toArray, List.set_cons_zero, List.set_cons_succ]
              have hd5 := hn4.kept (Kept.of_grown (S := fun k => k = qa1) gr5 (fun k e => (Option.some.inj e).symm)) (fun e => by rw [e] at hn4; have h := hn4.symm.trans hc4; simp at h)
              refine AnyG.ready (rs := [6]) (by kernel_rfl) (by simp) ?_
              refine AllG.cons rfl (fun K hK => ?_) AllG.nil
              refine step_append_lies wc5 rfl (.tmp 174) (.tmp 176) 22 rfl wr.heap.size 40 i0 (.agg #[.string ⟨#[]⟩, .int .i64 0, .int .i64 0, .int .i64 0, .int .i64 0, .int .i64 0, .int .i64 0, .int .i64 0, .int .i64 0, .int .i64 0]) 10 88 Tryz.underlying22 hi hz0 hz1 hz2 rfl (by decide) _ j (lvCs C.levels) (by simp [Act.eval]) own5 ⟨pa4, 0, none⟩ 1 1 [.string l.name, .int .i64 l.kind, .int .i64 l.shares, .int .i64 l.lend, .int .i64 l.borrow, .int .i64 l.queues, .int .i64 l.hand, .int .i64 l.length, .int .i64 l.wait, .int .i64 l.guess] (by simp [Act.eval]) rfl (World.news_of_block hd5) ONE (by decide) (by unfold maxLen; omega) (by omega) bc5.size _ rfl ?_
              intro q8 cap8 w8 hown hgrow hat hlt
              have b8 : Below wr.heap.size wr w8 := bc5.grown hgrow bc5.size (fun k hk => (own5.lt k hk).1)
              refine hK.out _ _ ⟨(TT _ b8).1, fun _ => (TT _ b8).2⟩ ?_
              clear hK K
              refine AnyG.putAt 177 rfl ?_
              simp only [List.setIfInBounds_toArray, List.set_cons_zero, List.set_cons_succ]
              have h8 := TT w8 b8
              refine .tk 7 178 rfl rfl (by kernel_rfl) (fun _ _ _ h => h) ⟨h8.1, fun _ => h8.2⟩ (by rfl) (fun w hSw => by go_simp; rfl) ?_; simp only [tkA, tkB, tkC]
              refine AnyG.ready (rs := [8]) (by kernel_rfl) (by simp) ?_
              refine AllG.cons rfl (fun K hK => ?_) AllG.nil
              obtain ⟨e8, f8⟩ := ROOM.out w8 b8
              have X9 := FIN.out q8 cap8 w8 (owns_mono hown BW) b8
              go_simp
              refine hK.out _ _ ⟨h8.1.other hbA _, fun h => by cases h⟩ ?_
              clear hK K
              refine AnyG.done (by kernel_rfl) ?_ _
              generalize w8.setCell _ _ = w9 at *
              obtain ⟨y0, y1, y2, y3, y4, y5⟩ := X9.reads
              obtain ⟨r0, r1, r2, r3, r4, r5, f0, f1, f2, f3, f4, f5⟩ := X9.room
              clear TT OWN ONES ROOM FIN h8 e8 f8 hown hgrow
              go_wp2_with fail
              obtain ⟨q1, q2, q3⟩ := X9.sets (.int .i64 C.total) (.int .i64 C.period) (.int .i64 C.perSeat) (.int .i64 C.most) (.slice (some ⟨q8, 0, none⟩) (j + 1) cap8) (.slice aS C.schemas.length cS)
              refine bodyPost_ret (resC36 _ _ _ _ _ _ _ _ _ _ rfl rfl q1) rfl ?_
              exact HEND.out _ _ _ q1 q2 q3 X9
          · skip
            go_simp
            have bn6 : Below wr.heap.size wr (w0.alloc (.cells #[.string l.name, .int .i64 l.kind, .int .i64 l.shares, .int .i64 l.lend, .int .i64 l.borrow, .int .i64 l.queues, .int .i64 l.hand, .int .i64 l.length, .int .i64 l.wait, .int .i64 l.guess] 40)) := bel0.alloc bel0.size _
            refine hK.out _ _ ⟨(TT _ bn6).1, fun _ => (TT _ bn6).2⟩ ?_
            clear hK K
            have hn6 : Blk (w0.alloc (.cells #[.string l.name, .int .i64 l.kind, .int .i64 l.shares, .int .i64 l.lend, .int .i64 l.borrow, .int .i64 l.queues, .int .i64 l.hand, .int .i64 l.length, .int .i64 l.wait, .int .i64 l.guess] 40)) w0.heap.size 40 #[.string l.name, .int .i64 l.kind, .int .i64 l.shares, .int .i64 l.lend, .int .i64 l.borrow, .int .i64 l.queues, .int .i64 l.hand, .int .i64 l.length, .int .i64 l.wait, .int .i64 l.guess] := Blk.new w0 40 _
            have hb6 : wr.heap.size ≤ w0.heap.size := bel0.size
            generalize w0.alloc (.cells #[.string l.name, .int .i64 l.kind, .int .i64 l.shares, .int .i64 l.lend, .int .i64 l.borrow, .int .i64 l.queues, .int .i64 l.hand, .int .i64 l.length, .int .i64 l.wait, .int .i64 l.guess] 40) = wa6 at *
            generalize w0.heap.size = pa6 at *
            refine AnyG.ready (rs := [0]) (by kernel_rfl) (by simp) ?_
            refine AllG.cons rfl (fun K hK => ?_) AllG.nil
            go_simp
            have bn7 : Below wr.heap.size wr (wa6.alloc (.cells #[] 40)) := bn6.alloc bn6.size _
            refine hK.out _ _ ⟨(TT _ bn7).1, fun _ => (TT _ bn7).2⟩ ?_
            clear hK K
            have hn7 : Blk (wa6.alloc (.cells #[] 40)) wa6.heap.size 40 #[] := Blk.new wa6 40 _
            have hb7 : wr.heap.size ≤ wa6.heap.size := bn6.size
            have hc7 := hn6.kept (Kept.of_below ((Below.refl wa6.heap.size wa6).alloc (Nat.le_refl _) (.cells #[] 40)) (fun _ => False)) id
            generalize wa6.alloc (.cells #[] 40) = wa7 at *
            generalize wa6.heap.size = qa7 at *
            refine AnyG.ready (rs := [3]) (by kernel_rfl) (by simp) ?_
            refine AllG.cons rfl (fun K hK => ?_) AllG.nil
            refine step_copy rfl (.tmp 171) (.tmp 173) 22 rfl wr.heap.size 40 i0 (.agg #[.string ⟨#[]⟩, .int .i64 0, .int .i64 0, .int .i64 0, .int .i64 0, .int .i64 0, .int .i64 0, .int .i64 0, .int .i64 0, .int .i64 0]) 10 88 Tryz.underlying22 hi hz0 hz1 hz2 rfl (by decide) qa7 (by simp [Act.eval]) hn7 hb7 B aL j cL (by simp [Act.eval]) (lvCs C.levels) (OWN _ bn7) ONES (by unfold maxLen; omega) (by omega) ?_
            intro g8 cap8 wc8 own8 gr8 lt8
            have bc8 : Below wr.heap.size wr wc8 := bn7.grown gr8 bn7.size (fun k hk => by injection hk with hk; have := hb7; omega)
            refine hK.out _ _ ⟨(TT _ bc8).1, fun _ => (TT _ bc8).2⟩ ?_
            clear hK K
            refine AnyG.putAt 174 rfl ?_
            simp only [List.setIfInBounds_toArray, List.set_cons_zero, List.set_cons_succ]
            have hd8 := hc7.kept (Kept.of_grown (S := fun k => k = qa7) gr8 (fun k e => (Option.some.inj e).symm)) (fun e => by rw [e] at hc7; have h := hc7.symm.trans hn7; simp at h)
            refine AnyG.ready (rs := [6]) (by kernel_rfl) (by simp) ?_
            refine AllG.cons rfl (fun K hK => ?_) AllG.nil
            refine step_append_lies wc8 rfl (.tmp 174) (.tmp 176) 22 rfl wr.heap.size 40 i0 (.agg #[.string ⟨#[]⟩, .int .i64 0, .int .i64 0, .int .i64 0, .int .i64 0, .int .i64 0, .int .i64 0, .int .i64 0, .int .i64 0, .int .i64 0]) 10 88 Tryz.underlying22 hi hz0 hz1 hz2 rfl (by decide) _ j (lvCs C.levels) (by simp [Act.eval]) own8 ⟨pa6, 0, none⟩ 1 1 [.string l.name, .int .i64 l.kind, .int .i64 l.shares, .int .i64 l.lend, .int .i64 l.borrow, .int .i64 l.queues, .int .i64 l.hand, .int .i64 l.length, .int .i64 l.wait, .int .i64 l.guess] (by simp [Act.eval]) rfl (World.news_of_block hd8) ONE (by decide) (by unfold maxLen; omega) (by omega) bc8.size _ rfl ?_
            intro q8 cap8 w8 hown hgrow hat hlt
            have b8 : Below wr.heap.size wr w8 := bc8.grown hgrow bc8.size (fun k hk => (own8.lt k hk).1)
            refine hK.out _ _ ⟨(TT _ b8).1, fun _ => (TT _ b8).2⟩ ?_
            clear hK K
            refine AnyG.putAt 177 rfl ?_
            simp only [List.setIfInBounds_toArray, List.set_cons_zero, List.set_cons_succ]
            have h8 := TT w8 b8
            refine .tk 7 178 rfl rfl (by kernel_rfl) (fun _ _ _ h => h) ⟨h8.1, fun _ => h8.2⟩ (by rfl) (fun w hSw => by go_simp; rfl) ?_; simp only [tkA, tkB, tkC]
            refine AnyG.ready (rs := [8]) (by kernel_rfl) (by simp) ?_
            refine AllG.cons rfl (fun K hK => ?_) AllG.nil
            obtain ⟨e8, f8⟩ := ROOM.out w8 b8
            have X9 := FIN.out q8 cap8 w8 (owns_mono hown BW) b8
            go_simp
            refine hK.out _ _ ⟨h8.1.other hbA _, fun h => by cases h⟩ ?_
            clear hK K
            refine AnyG.done (by kernel_rfl) ?_ _
            generalize w8.setCell _ _ = w9 at *
            obtain ⟨y0, y1, y2, y3, y4, y5⟩ := X9.reads
            obtain ⟨r0, r1, r2, r3, r4, r5, f0, f1, f2, f3, f4, f5⟩ := X9.room
            clear TT OWN ONES ROOM FIN h8 e8 f8 hown hgrow
            go_wp2_with fail
            obtain ⟨q1, q2, q3⟩ := X9.sets (.int .i64 C.total) (.int .i64 C.period) (.int .i64 C.perSeat) (.int .i64 C.most) (.slice (some ⟨q8, 0, none⟩) (j + 1) cap8) (.slice aS C.schemas.length cS)
            refine bodyPost_ret (resC36 _ _ _ _ _ _ _ _ _ _ rfl rfl q1) rfl ?_
            exact HEND.out _ _ _ q1 q2 q3 X9

end Go.Proofs.YtlkoaldekmdcoaaGreatDoor
