/-
  What 'Bounds' of the program answers. Conditions: the levels lie in memory, and are no more than memory holds.
-/
import Derived.Test.YtcombbkhdnipkaaBWb
import Derived.Test.YtcombbkhdnipkaaBWs
import Derived.Test.YtcombbkhdnipkaaOrQ
namespace Go.Proofs.Ytcombbkhdnipkaa.Bo
open Go.RowKit

/-- A block of n bounds that may be written. -/
def OwnB (w : World) (b n : Nat) (g : Nat → Bd) : Prop := b < w.heap.size ∧ ∀ k, k < n → (w.cell? ⟨b, k * 3, none⟩ = some (.int .i64 (g k).nom) ∧ w.cell? ⟨b, k * 3 + 1, none⟩ = some (.int .i64 (g k).mn) ∧ w.cell? ⟨b, k * 3 + 2, none⟩ = some (.int .i64 (g k).mx)) ∧ w.frozen? ⟨b, k * 3, none⟩ = false ∧ w.frozen? ⟨b, k * 3 + 1, none⟩ = false ∧ w.frozen? ⟨b, k * 3 + 2, none⟩ = false
theorem OwnB.read {w : World} {b n : Nat} {g : Nat → Bd} (h : OwnB w b n g) : BdR w (some ⟨b, 0, none⟩) n g :=
  fun _ => ⟨b, 0, rfl, h.1, fun k hk => by rw [Nat.zero_add]; exact (h.2 k hk).1⟩
theorem OwnB.carry {w w' : World} {b n : Nat} {g : Nat → Bd} (h : OwnB w b n g) (q : Below w.heap.size w w') : OwnB w' b n g :=
  ⟨Nat.lt_of_lt_of_le h.1 q.size, fun k hk => by
    obtain ⟨⟨h0, h1, h2⟩, f0, f1, f2⟩ := h.2 k hk
    exact ⟨⟨(q.cell (p := ⟨b, k * 3, none⟩) h.1).trans h0, (q.cell (p := ⟨b, k * 3 + 1, none⟩) h.1).trans h1, (q.cell (p := ⟨b, k * 3 + 2, none⟩) h.1).trans h2⟩, (q.frozen (p := ⟨b, k * 3, none⟩) h.1).trans f0, (q.frozen (p := ⟨b, k * 3 + 1, none⟩) h.1).trans f1, (q.frozen (p := ⟨b, k * 3 + 2, none⟩) h.1).trans f2⟩⟩
theorem OwnB.congr {w : World} {b n : Nat} {f g : Nat → Bd} (h : OwnB w b n f) (e : ∀ k, k < n → f k = g k) : OwnB w b n g :=
  ⟨h.1, fun k hk => by rw [← e k hk]; exact h.2 k hk⟩
def updB (f : Nat → Bd) (i : Nat) (x : Bd) : Nat → Bd := fun j => if j = i then x else f j
def uptoB (f : Nat → Bd) (k : Nat) : Nat → Bd := fun j => if j < k then f j else ⟨0, 0, 0⟩
theorem uptoB_succ (f : Nat → Bd) (k : Nat) : updB (uptoB f k) k (f k) = uptoB f (k + 1) := by
  funext j
  unfold updB uptoB
  by_cases c : j = k
  · subst c; simp
  · rw [if_neg c]
    by_cases d : j < k
    · rw [if_pos d, if_pos (by omega)]
    · rw [if_neg d, if_neg (by omega)]
theorem cell_off {w : World} {b x y : Nat} (v : Value) (h : y ≠ x) : (w.setCell ⟨b, x, none⟩ v).cell? ⟨b, y, none⟩ = w.cell? ⟨b, y, none⟩ :=
  World.cell?_setCell_other _ _ _ _ (fun e => h (Addr.mk.inj e).2.1.symm)
theorem OwnB.store {w : World} {b n : Nat} {f : Nat → Bd} (h : OwnB w b n f) (i : Nat) (x y z : Int) (hi : i < n) :
    OwnB (((w.setCell ⟨b, i * 3, none⟩ (.int .i64 x)).setCell ⟨b, i * 3 + 1, none⟩ (.int .i64 y)).setCell ⟨b, i * 3 + 2, none⟩ (.int .i64 z)) b n (updB f i ⟨x, y, z⟩) := by
  refine ⟨by simpa using h.1, fun k hk => ⟨?_, by simpa using (h.2 k hk).2⟩⟩
  obtain ⟨⟨h0, h1, h2⟩, -⟩ := h.2 k hk
  by_cases c : k = i
  · subst c
    simp only [updB, if_pos]
    refine ⟨?_, ?_, ?_⟩
    · rw [cell_off _ (by omega), cell_off _ (by omega)]
      exact World.cell?_setCell_same _ _ _ h0
    · rw [cell_off _ (by omega)]
      exact World.cell?_setCell_same _ _ _ (by rw [cell_off _ (by omega)]; exact h1)
    · exact World.cell?_setCell_same _ _ _ (by rw [cell_off _ (by omega), cell_off _ (by omega)]; exact h2)
  · simp only [updB, if_neg c]
    exact ⟨by rw [cell_off _ (by omega), cell_off _ (by omega), cell_off _ (by omega)]; exact h0, by rw [cell_off _ (by omega), cell_off _ (by omega), cell_off _ (by omega)]; exact h1, by rw [cell_off _ (by omega), cell_off _ (by omega), cell_off _ (by omega)]; exact h2⟩
theorem bd_kept (w : World) (b i : Nat) (x y z : Value) : Kept (fun j => j = b) w (((w.setCell ⟨b, i, none⟩ x).setCell ⟨b, i + 1, none⟩ y).setCell ⟨b, i + 2, none⟩ z) :=
  (((Kept.refl (fun j => j = b) w).setCell ⟨b, i, none⟩ x (.inl rfl)).setCell ⟨b, i + 1, none⟩ y (.inl rfl)).setCell ⟨b, i + 2, none⟩ z (.inl rfl)
theorem OwnB.put {w : World} {b n : Nat} {G : Nat → Bd} {k : Nat} (h : OwnB w b n (uptoB G k)) (x y z : Int) (hk : k < n) (hG : G k = ⟨x, y, z⟩) :
    OwnB (((w.setCell ⟨b, k * 3, none⟩ (.int .i64 x)).setCell ⟨b, k * 3 + 1, none⟩ (.int .i64 y)).setCell ⟨b, k * 3 + 2, none⟩ (.int .i64 z)) b n (uptoB G (k + 1)) := by
  have := h.store k x y z hk
  rw [← hG, uptoB_succ] at this
  exact this
theorem Own.kept {S : Nat → Prop} {w w' : World} {b n : Nat} {f : Nat → Int} (h : Own w b n f) (k : Kept S w w') (hS : ¬ S b) : Own w' b n f := by
  have e := k.block b h.1 hS
  refine ⟨Nat.lt_of_lt_of_le h.1 k.size, fun j hj => ?_⟩
  obtain ⟨h1, h2⟩ := h.2 j hj
  exact ⟨by rw [← h1]; simp only [World.cell?, e], by rw [← h2]; simp only [World.frozen?, e]⟩
theorem made3 (m i : Nat) (h : i < m) : (madeCells #[.int .i64 0, .int .i64 0, .int .i64 0] m).toList[i]? = some (.int .i64 0) := by
  have h3 : i % 3 = 0 ∨ i % 3 = 1 ∨ i % 3 = 2 := by omega
  rcases h3 with e | e | e <;> simp [madeCells, h, e]
theorem Try.info39 : (Try.prog.info? 39).map (fun i => (i.zero, i.size, i.bytes)) = some (some (.agg #[.int .i64 0, .int .i64 0, .int .i64 0]), 3, 24) := by kernel_rfl
theorem OwnB.made {w : World} {base n g : Nat} (h : w.ownsRow base 39 3 (.slice (some ⟨g, 0, none⟩) n n) n (madeCells (Value.cells (.agg #[.int .i64 0, .int .i64 0, .int .i64 0])) (n * 3)).toList) : OwnB w g n (fun _ => ⟨0, 0, 0⟩) := by
  refine ⟨(h.lt g rfl).2, fun k hk => ⟨⟨?_, ?_, ?_⟩, h.frozenAt _, h.frozenAt _, h.frozenAt _⟩⟩
  · rw [h.cellAt _ (by omega)]; exact made3 _ _ (by omega)
  · rw [h.cellAt _ (by omega)]; exact made3 _ _ (by omega)
  · rw [h.cellAt _ (by omega)]; exact made3 _ _ (by omega)

/-- The document's bounds, and its error. -/
def bds (total : Int) (n : Nat) (l : Nat → Lv) : Nat → Bd := fun k => bdOf total (part total n (shr l) k) (l k)
/-- What Bounds of a program or of the document answers. -/
structure BRes (w : World) (total : Int) (n : Nat) (l : Nat → Lv) (e : Ending) (w' : World) : Prop where
  ex : (Fits total n (shr l) ∧ (∀ k, k < n → InR (l k)) ∧ ∃ a c, e = .returned (.tuple #[.slice a n c, .int .i64 0]) ∧ BdR w' a n (bds total n l)) ∨
    (Fits total n (shr l) ∧ (∃ k, k < n ∧ ¬ InR (l k)) ∧ e = .returned (.tuple #[.slice none 0 0, .int .i64 8])) ∨
    ((refI total n (shr l) == 0) = false ∧ e = .returned (.tuple #[.slice none 0 0, .int .i64 (refI total n (shr l))]))
  bel : Below w.heap.size w w'

set_option maxHeartbeats 1000000 in
theorem bounds_no (total : Int) (a : Option Addr) (n cap : Nat) (l : Nat → Lv) (w : World) (hr : LvR w a n l) (hn : n ≤ 17592186044416) (h : (refI total n (shr l) == 0) = false) :
    Calls Try.prog 11 #[.int .i64 total, .slice a n cap] w fun e w' => BRes w total n l e w' := by
  have h' : (refI total n (shr l) != 0) = true := by simpa using h
  have I := shares_ok a n cap l w hr hn
  have H : Hd ((refI total n (shr l) == 0) = false) := ⟨h⟩
  clear hr
  go_enter Try.func11, Try.ntmps11
  go_wp2_with fail
  go_at_call 18
  refine I.mono ?_
  rintro e w1 ⟨b, rfl, hb, o1, b1⟩
  go_wp2_with fail
  go_at_call 17
  refine (split_no _ _ _ _ _ _ o1.row h).mono ?_
  rintro e w' ⟨rfl, hw⟩
  obtain rfl := hw.symm
  clear o1 I h
  go_wp2_with fail
  go_ret2
  exact ⟨.inr (.inr ⟨H.out, rfl⟩), b1⟩

set_option maxRecDepth 20000 in
set_option maxHeartbeats 4000000 in
theorem bounds_yes (total : Int) (a : Option Addr) (n cap : Nat) (l : Nat → Lv) (w : World) (hr : LvR w a n l) (hf : Fits total n (shr l)) :
    Calls Try.prog 11 #[.int .i64 total, .slice a n cap] w fun e w' => BRes w total n l e w' := by
  obtain ⟨i0, hi, hz0, hz1, hz2⟩ := info_parts Try.info39
  have hlen := hf.len
  have hpos := hf.pos
  have I := shares_ok a n cap l w hr (by omega)
  have HR : Hd (LvR w a n l) := ⟨hr⟩
  have HF : Hd (Fits total n (shr l)) := ⟨hf⟩
  clear hr hf
  go_enter Try.func11, Try.ntmps11
  go_wp2_with fail
  go_at_call 18
  refine I.mono ?_
  rintro e w1 ⟨b, rfl, hb, o1, b1⟩
  go_wp2_with fail
  go_at_call 17
  refine (split_yes _ _ _ _ _ _ o1.row HF.out).mono ?_
  rintro e w2 ⟨pb, rfl, hpb, o2, b2⟩
  have B2 : Below w.heap.size w w2 := b1.trans (b2.mono b1.size)
  have hpw : w.heap.size ≤ pb := Nat.le_trans b1.size hpb
  clear o1 I b1 b2 hb hpb
  have hs2 := B2.size
  go_wp2_with (at_make; refine wpList_make_full _ rfl (.tmp 22) (.tmp 22) 22 rfl w.heap.size 39 i0 (.agg #[.int .i64 0, .int .i64 0, .int .i64 0]) 3 Try.underlying22 hi hz0 hz1 _ _ _ _ n rfl rfl rfl rfl (by rw [hz2]; omega) (by unfold maxLen; omega) hs2 ?_; intro w3 hown3 hgrow3; have hs3 := hgrow3.size)
  have O3 := OwnB.made hown3
  have B23 : Below w2.heap.size w2 w3 := (Below.refl _ _).grown hgrow3 (Nat.le_refl _) (by simp)
  have P3 := o2.carry B23
  have B3 : Below w.heap.size w w3 := B2.trans (B23.mono B2.size)
  have hne : pb ≠ w2.heap.size := by have := o2.1; omega
  clear hown3 hgrow3 B23 B2 o2
  generalize w2.heap.size = lb at *
  go_loopw [26] (fun i wr => ∃ k : Nat, k ≤ n ∧ i = .int .i64 k ∧ Hd (∀ j, j < k → InR (l j)) ∧ OwnB wr lb n (uptoB (bds total n l) k) ∧ Own wr pb n (part total n (shr l)) ∧ Below w.heap.size w wr) (fun i _ => n - (intOf i).toNat)
  case atStart => exact ⟨0, Nat.zero_le _, rfl, ⟨fun j hj => absurd hj (Nat.not_lt_zero _)⟩, O3, P3, B3⟩
  case round =>
    clear O3 P3 B3 hs3
    obtain ⟨k, hk, rfl, hall, O, P, B⟩ := hrel
    by_cases hlt : k < n
    · obtain ⟨sb, off, rfl, hsb, c0, c1, c2, c3, c4, c5, c6, c7, c8, c9⟩ := (HR.out.carry B).at hlt
      have hG : Hd (bds total n l k = bdOf total (part total n (shr l) k) (l k)) := ⟨rfl⟩
      have hI : Hd (∀ y, l k = y → y = l k) := ⟨fun y h => h.symm⟩
      obtain ⟨pp0, pp1⟩ := HF.out.part k hlt
      obtain ⟨y, hy⟩ : ∃ y, y = l k := ⟨_, rfl⟩
      have HY : Hd (y = l k) := ⟨hy⟩
      rw [← hy] at c0 c1 c2 c3 c4 c5 c6 c7 c8 c9 hG
      clear hI hy
      obtain ⟨wa, hwa⟩ : ∃ wa, wa = wr.alloc (.cells (lvA y) 41) := ⟨_, rfl⟩
      have N : Blk wa wr.heap.size 41 (lvA y) := by rw [hwa]; exact Blk.new _ _ _
      have BW : Below wr.heap.size wr wa := by rw [hwa]; exact alloc_below _ _
      have BA : Hd (Below w.heap.size w wa) := ⟨B.trans (BW.mono B.size)⟩
      have OA : Hd (OwnB wa lb n (uptoB (bds total n l) k)) := ⟨O.carry BW⟩
      have PA : Hd (Own wa pb n (part total n (shr l))) := ⟨P.carry BW⟩
      have NA : Hd (Blk wa wr.heap.size 41 (lvA y)) := ⟨N⟩
      have n0 := N.cellv (v := .string y.name) 0 rfl
      have n1 := N.cellv (v := .int .i64 y.kind) 1 rfl
      have n2 := N.cellv (v := .int .i64 y.shares) 2 rfl
      have n3 := N.cellv (v := .int .i64 y.lend) 3 rfl
      have n4 := N.cellv (v := .int .i64 y.borrow) 4 rfl
      have n5 := N.cellv (v := .int .i64 y.queues) 5 rfl
      have n6 := N.cellv (v := .int .i64 y.hand) 6 rfl
      have n7 := N.cellv (v := .int .i64 y.length) 7 rfl
      have n8 := N.cellv (v := .int .i64 y.wait) 8 rfl
      have n9 := N.cellv (v := .int .i64 y.guess) 9 rfl
      have OA0 : Hd (OwnB wr lb n (uptoB (bds total n l) k)) := ⟨O⟩
      clear N BW B O P hsb
      unfold lvA at hwa
      by_cases hin : InR y
      · have J := inRange_ok y wa true ⟨fun _ => hin, fun _ => rfl⟩
        unfold lvV at J
        have HIN : Hd (InR y) := ⟨hin⟩
        clear hin
        go_upto_region 8 with fail
        rw [← hwa]
        clear hwa c0 c1 c2 c3 c4 c5 c6 c7 c8 c9
        have hgl : ¬ (wr.heap.size = lb) := by have := OA0.out.1; omega
        clear OA0
        generalize wr.heap.size = g at *
        go_upto_region 10 with (go_at_call 19; refine J.mono ?_; rintro e wb ⟨rfl, bb⟩)
        clear n0 n1 n2 n3 n4 n5 n6 n7 n8 n9 J
        have BB : Hd (Below w.heap.size w wb) := ⟨BA.out.trans (bb.mono BA.out.size)⟩
        have OB : Hd (OwnB wb lb n (uptoB (bds total n l) k)) := ⟨OA.out.carry bb⟩
        have PB : Hd (Own wb pb n (part total n (shr l))) := ⟨PA.out.carry bb⟩
        have NB : Hd (Blk wb g 41 (lvA y)) := ⟨NA.out.kept (Kept.of_below bb (fun _ => False)) id⟩
        clear BA OA PA NA bb
        have hT : wb.drew.cell? ⟨pb, k, none⟩ = some (.int .i64 (part total n (shr l) k)) ∧ Blk wb.drew g 41 (lvA y) := ⟨(PB.out.2 k hlt).1, NB.out⟩
        have BB' : Hd (Below w.heap.size w wb.drew) := ⟨BB.out.drew⟩
        have OB' : Hd (OwnB wb.drew lb n (uptoB (bds total n l) k)) := ⟨OB.out⟩
        have PB' : Hd (Own wb.drew pb n (part total n (shr l))) := ⟨PB.out⟩
        clear BB OB PB NB
        have HC : Hd (∀ W, Calls Try.prog 20 #[.int .i64 total, .int .i64 (part total n (shr l) k), lvV y] W fun e w' => e = .returned (bdV (bdOf total (part total n (shr l) k) y)) ∧ Below W.heap.size W w') := ⟨fun W => bound_ok total _ y W HIN.out pp0 pp1⟩
        have hcp : Hd (∀ W, Own W pb n (part total n (shr l)) → W.cell? ⟨pb, k, none⟩ = some (.int .i64 (part total n (shr l) k))) := ⟨fun W h => (h.2 k hlt).1⟩
        generalize part total n (shr l) k = q at *
        refine AnyG.start (T := fun W => W.cell? ⟨pb, k, none⟩ = some (.int .i64 q) ∧ Blk W g 41 (lvA y)) (U := fun _ => True) (j0 := 100) (by kernel_rfl) ?_
        generalize wb.drew = wc at *
        refine .tq 0 34 hT ?_; simp only [tkA, tkB, tkC]
        refine .tq 1 35 hT ?_; simp only [tkA, tkB, tkC]
        refine .tq 2 36 hT ?_; simp only [tkA, tkB, tkC]
        refine .tq 3 37 hT ?_; simp only [tkA, tkB, tkC]
        refine .tq 4 38 hT ?_; simp only [tkA, tkB, tkC]
        refine .tq 5 39 hT ?_; simp only [tkA, tkB, tkC]
        refine .tq 6 40 hT ?_ (hy := fun w hSw => by have s := hSw.1; go_simp; rfl); simp only [tkA, tkB, tkC]
        refine .tq 7 41 hT ?_ (hy := fun w hSw => by obtain ⟨⟨s0, s1, s2, s3, s4, s5, s6, s7, s8, s9⟩, -⟩ := hSw.2.ten; go_simp; rfl); simp only [tkA, tkB, tkC]
        refine AnyG.ready (rs := [8]) (by kernel_rfl) (by simp) ?_
        refine AllG.cons rfl (fun K hK => ?_) AllG.nil
        go_simp
        refine (HC.out wc).mono ?_
        rintro e wd ⟨rfl, bd⟩
        have O4 : OwnB wd lb n (uptoB (bds total n l) k) := OB'.out.carry bd
        have P4 : Own wd pb n (part total n (shr l)) := PB'.out.carry bd
        have B4 : Below w.heap.size w wd := BB'.out.trans (bd.mono BB'.out.size)
        have hT4 : wd.cell? ⟨pb, k, none⟩ = some (.int .i64 q) ∧ Blk wd g 41 (lvA y) := ⟨(bd.cell (p := ⟨pb, k, none⟩) PB'.out.1).trans hT.1, hT.2.kept (Kept.of_below bd (fun _ => False)) id⟩
        refine hK.out _ _ ⟨hT4, fun _ => trivial⟩ ?_
        clear hK K HC bd hT OB' PB' BB'
        generalize bdOf total q y = z at *
        obtain ⟨x1, x2, x3⟩ := z
        unfold bdV
        simp only
        refine .tq 9 43 hT4 ?_; simp only [tkA, tkB, tkC]
        obtain ⟨⟨r0, r1, r2⟩, f0, f1, f2⟩ := O4.2 k hlt
        obtain ⟨w5, hw5⟩ : ∃ w5, w5 = ((wd.setCell ⟨lb, k * 3, none⟩ (.int .i64 x1)).setCell ⟨lb, k * 3 + 1, none⟩ (.int .i64 x2)).setCell ⟨lb, k * 3 + 2, none⟩ (.int .i64 x3) := ⟨_, rfl⟩
        have S1 : OwnB w5 lb n (uptoB (bds total n l) (k + 1)) := by rw [hw5]; exact O4.put x1 x2 x3 hlt hG.out
        have KS : Kept (fun j => j = lb) wd w5 := by rw [hw5]; exact bd_kept wd lb (k * 3) _ _ _
        have S2 : Own w5 pb n (part total n (shr l)) := P4.kept KS hne
        have S3 : Below w.heap.size w w5 := B4.trans (KS.below B4.size (fun j e => by rw [e]; exact hs2))
        have S4 : w5.cell? ⟨pb, k, none⟩ = some (.int .i64 q) ∧ Blk w5 g 41 (lvA y) := ⟨(hcp.out w5 S2), hT4.2.kept KS hgl⟩
        refine AnyG.ready (rs := [10]) (by kernel_rfl) (by simp) ?_
        refine AllG.cons rfl (fun K hK => ?_) AllG.nil
        go_simp
        rw [← hw5]
        refine hK.out _ _ ⟨S4, fun _ => trivial⟩ ?_
        clear hK K O4 P4 B4 hT4 S4 KS r0 r1 r2 f0 f1 f2 hw5 hcp
        refine AnyG.done (by kernel_rfl) ?_ _
        go_wp2_with fail
        go_roundw
        case rel => exact ⟨k + 1, by omega, by go_num, ⟨fun j hj => by
          rcases Nat.lt_or_eq_of_le (Nat.le_of_lt_succ hj) with h | h
          · exact hall.out j h
          · rw [h, ← HY.out]; exact HIN.out⟩, S1, S2, S3⟩
        case measure => simp [intOf]; omega
      · have J := inRange_ok y wa false ⟨fun h => (by cases h), fun h => absurd h hin⟩
        unfold lvV at J
        have HIN : Hd (∃ k, k < n ∧ ¬ InR (l k)) := ⟨⟨k, hlt, by rw [← HY.out]; exact hin⟩⟩
        clear hin
        go_upto_region 8 with fail
        rw [← hwa]
        clear hwa c0 c1 c2 c3 c4 c5 c6 c7 c8 c9
        generalize wr.heap.size = g at *
        go_wp2_with (go_at_call 19; refine J.mono ?_; rintro e wb ⟨rfl, bb⟩)
        go_ret2
        exact ⟨.inr (.inl ⟨HF.out, HIN.out, rfl⟩), BA.out.trans (bb.mono BA.out.size)⟩
    · obtain rfl : k = n := by omega
      have q1 : OwnB wr lb k (bds total k l) := O.congr fun j hj => by simp [uptoB, hj]
      clear O P
      go_wp2_with fail
      go_ret2
      exact ⟨.inl ⟨HF.out, hall.out, _, _, rfl, q1.read⟩, B⟩
end Go.Proofs.Ytcombbkhdnipkaa.Bo
