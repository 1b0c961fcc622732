/-
  'made' of the statements: the chain that it makes, and the list of its links: the walk. Condition: the wraps lie in memory.
-/
import Derived.Test.YtndandkanamjoaaDoorLawM
namespace Go.Proofs.YtndandkanamjoaaDoor
open Go.RowKit Go.Extern.Stop Go.Stop Go.Extern

theorem ms_new (w : World) (code : Int) : Ms w ((w.alloc (.cells #[.int .i64 0, .slice none 0 0] 28)).alloc (.cells #[.int .i64 code, .slice none 0 0] 28)) code (.slice none 0 0) [] := by
  have bA : Below w.heap.size w (w.alloc (.cells #[.int .i64 0, .slice none 0 0] 28)) := (Below.refl _ _).alloc (Nat.le_refl _) _
  have a0 : (w.alloc (.cells #[.int .i64 0, .slice none 0 0] 28)).cell? ⟨w.heap.size, 0, none⟩ = some (.int .i64 0) := by simp
  have a1 : (w.alloc (.cells #[.int .i64 0, .slice none 0 0] 28)).cell? ⟨w.heap.size, 1, none⟩ = some (.slice none 0 0) := by simp
  have a2 : (w.alloc (.cells #[.int .i64 0, .slice none 0 0] 28)).frozen? ⟨w.heap.size, 0, none⟩ = false := by simp
  have a3 : (w.alloc (.cells #[.int .i64 0, .slice none 0 0] 28)).frozen? ⟨w.heap.size, 1, none⟩ = false := by simp
  have sA : (w.alloc (.cells #[.int .i64 0, .slice none 0 0] 28)).heap.size = w.heap.size + 1 := by simp
  generalize w.alloc (.cells #[.int .i64 0, .slice none 0 0] 28) = wA at *
  have bB : Below wA.heap.size wA (wA.alloc (.cells #[.int .i64 code, .slice none 0 0] 28)) := (Below.refl _ _).alloc (Nat.le_refl _) _
  have b0 : (wA.alloc (.cells #[.int .i64 code, .slice none 0 0] 28)).cell? ⟨wA.heap.size, 0, none⟩ = some (.int .i64 code) := by simp
  have b1 : (wA.alloc (.cells #[.int .i64 code, .slice none 0 0] 28)).cell? ⟨wA.heap.size, 1, none⟩ = some (.slice none 0 0) := by simp
  have b2 : (wA.alloc (.cells #[.int .i64 code, .slice none 0 0] 28)).frozen? ⟨wA.heap.size, 1, none⟩ = false := by simp
  have sB : (wA.alloc (.cells #[.int .i64 code, .slice none 0 0] 28)).heap.size = wA.heap.size + 1 := by simp
  generalize wA.alloc (.cells #[.int .i64 code, .slice none 0 0] 28) = wB at *
  rw [sA] at b0 b1 b2
  exact ⟨bA.trans (bB.mono (by omega)), by omega, (bB.cell (p := ⟨w.heap.size, 0, none⟩) (by simp only; omega)).trans a0, (bB.cell (p := ⟨w.heap.size, 1, none⟩) (by simp only; omega)).trans a1,
    (bB.frozen (p := ⟨w.heap.size, 0, none⟩) (by simp only; omega)).trans a2, (bB.frozen (p := ⟨w.heap.size, 1, none⟩) (by simp only; omega)).trans a3, b0, b1, b2, World.ownsRow_nil _ _ _ _⟩
theorem Ms.grown {w wr w' : World} {code : Int} {v : Value} {Q : List Lk} (h : Ms w wr code v Q) (b : Below wr.heap.size wr w') : Ms w w' code v Q := by
  have := h.sz
  have hg : wr.grownBy w' none := ⟨b.os, b.tape, b.output, b.size, fun k hk _ => b.block k hk⟩
  refine ⟨h.bel.trans (b.mono h.bel.size), Nat.lt_of_lt_of_le h.sz b.size, (b.cell (p := ⟨w.heap.size, 0, none⟩) (by simp only; omega)).trans h.r0, (b.cell (p := ⟨w.heap.size, 1, none⟩) (by simp only; omega)).trans h.r1,
    (b.frozen (p := ⟨w.heap.size, 0, none⟩) (by simp only; omega)).trans h.g0, (b.frozen (p := ⟨w.heap.size, 1, none⟩) (by simp only; omega)).trans h.g1, (b.cell (p := ⟨w.heap.size + 1, 0, none⟩) h.sz).trans h.c0,
    (b.cell (p := ⟨w.heap.size + 1, 1, none⟩) h.sz).trans h.c1, (b.frozen (p := ⟨w.heap.size + 1, 1, none⟩) h.sz).trans h.f1, ?_⟩
  refine h.own.kept hg ?_
  cases hv : v.ownBlock with
  | none => exact .inl rfl
  | some g => exact .inr (by simp)

/-- One round: the wrap's own block, the new link's block. -/
theorem made_step {w wr : World} {code : Int} {v : Value} {Q : List Lk} (h : Ms w wr code v Q) (K L : Int) (S : ByteArray) :
    (wr.alloc (.cells #[.int .i64 K, .int .i64 L, .string S] 48)).heap.size = wr.heap.size + 1
    ∧ (wr.alloc (.cells #[.int .i64 K, .int .i64 L, .string S] 48)).cell? ⟨w.heap.size + 1, 1, none⟩ = some v
    ∧ (wr.alloc (.cells #[.int .i64 K, .int .i64 L, .string S] 48)).frozen? ⟨w.heap.size + 1, 1, none⟩ = false
    ∧ ((wr.alloc (.cells #[.int .i64 K, .int .i64 L, .string S] 48)).alloc (.cells #[.int .i64 L, .string S] 50)).heap.size = wr.heap.size + 2
    ∧ Below (w.heap.size + 2) wr ((wr.alloc (.cells #[.int .i64 K, .int .i64 L, .string S] 48)).alloc (.cells #[.int .i64 L, .string S] 50))
    ∧ ((wr.alloc (.cells #[.int .i64 K, .int .i64 L, .string S] 48)).alloc (.cells #[.int .i64 L, .string S] 50)).cell? ⟨w.heap.size + 1, 1, none⟩ = some v
    ∧ ((wr.alloc (.cells #[.int .i64 K, .int .i64 L, .string S] 48)).alloc (.cells #[.int .i64 L, .string S] 50)).frozen? ⟨w.heap.size + 1, 1, none⟩ = false
    ∧ OwnK (w.heap.size + 2) ((wr.alloc (.cells #[.int .i64 K, .int .i64 L, .string S] 48)).alloc (.cells #[.int .i64 L, .string S] 50)) v Q := by
  have hsz := h.sz
  have bx : Below wr.heap.size wr (wr.alloc (.cells #[.int .i64 K, .int .i64 L, .string S] 48)) := (Below.refl _ _).alloc (Nat.le_refl _) _
  have bz : Below wr.heap.size wr ((wr.alloc (.cells #[.int .i64 K, .int .i64 L, .string S] 48)).alloc (.cells #[.int .i64 L, .string S] 50)) := bx.alloc (by simp) _
  exact ⟨by simp, (h.grown bx).c1, (h.grown bx).f1, by simp, bz.mono (by omega), (h.grown bz).c1, (h.grown bz).f1, (h.grown bz).own⟩
theorem made_fin {w wr wz w2 : World} {code : Int} {v v' : Value} {Q : List Lk} {L : Int} {S : ByteArray} (h : Ms w wr code v Q) (sz : wz.heap.size = wr.heap.size + 2) (bz : Below (w.heap.size + 2) wr wz)
    (z1 : wz.cell? ⟨w.heap.size + 1, 1, none⟩ = some v) (z2 : wz.frozen? ⟨w.heap.size + 1, 1, none⟩ = false) (oz : OwnK (w.heap.size + 2) wz v Q) (hg : wz.grownBy w2 v.ownBlock)
    (ho : w2.ownsRow (w.heap.size + 2) 50 2 v' (Q.length + 1) (cl Q ++ [.int .i64 L, .string S])) :
    w2.cell? ⟨w.heap.size + 1, 1, none⟩ = some v ∧ w2.frozen? ⟨w.heap.size + 1, 1, none⟩ = false ∧ Ms w (w2.setCell ⟨w.heap.size + 1, 1, none⟩ v') code v' (Q ++ [⟨L, S⟩]) := by
  have hsz := h.sz
  have e : w2.heap[w.heap.size + 1]? = wz.heap[w.heap.size + 1]? := hg.block _ (by omega) (fun e => by have := (oz.lt _ e.symm).1; omega)
  exact ⟨(World.cell?_of_block (a := ⟨w.heap.size + 1, 1, none⟩) e).trans z1, (World.frozen?_of_block (a := ⟨w.heap.size + 1, 1, none⟩) e).trans z2,
    h.next (l := ⟨L, S⟩) (bz.grown hg (by omega) (fun j hj => (oz.lt j hj).1)) ho⟩

theorem own_mono {B B' : Nat} {w : World} {v : Value} {Q : List Lk} (h : OwnK B w v Q) (hb : B' ≤ B) : OwnK B' w v Q := by
  refine ⟨h.1, ?_⟩
  rcases h.2 with h1 | ⟨g, cap, cur, h1, h2, h3⟩
  · exact .inl h1
  · exact .inr ⟨g, cap, cur, h1, Nat.le_trans hb h2, h3⟩
theorem made_end1 {w wr : World} {code : Int} {a : Option Addr} {c : Nat} {Q : List Lk} (h : Ms w wr code (.slice a Q.length c) Q) (q : Value) (tmps : Array Value)
    (h4 : tmps[4]?.getD undef = q) (h5 : tmps[5]?.getD undef = .pointer (some ⟨w.heap.size, 0, none⟩)) :
    (results Tryd.f9 tmps).run Tryd.prog ((wr.setCell ⟨w.heap.size, 0, none⟩ (.int .i64 code)).setCell ⟨w.heap.size, 1, none⟩ (.slice a Q.length c)).drew = .ok (.tuple #[q, .agg #[.int .i64 code, .slice a Q.length c]]) ((wr.setCell ⟨w.heap.size, 0, none⟩ (.int .i64 code)).setCell ⟨w.heap.size, 1, none⟩ (.slice a Q.length c)).drew := by
  have e0 : ((wr.setCell ⟨w.heap.size, 0, none⟩ (.int .i64 code)).setCell ⟨w.heap.size, 1, none⟩ (.slice a Q.length c)).drew.cell? ⟨w.heap.size, 0, none⟩ = some (.int .i64 code) :=
    (World.cell?_setCell_other _ _ _ _ (by simp)).trans (World.cell?_setCell_same _ _ _ h.r0)
  have e1 : ((wr.setCell ⟨w.heap.size, 0, none⟩ (.int .i64 code)).setCell ⟨w.heap.size, 1, none⟩ (.slice a Q.length c)).drew.cell? ⟨w.heap.size, 1, none⟩ = some (.slice a Q.length c) :=
    World.cell?_setCell_same _ _ _ ((World.cell?_setCell_other _ _ _ _ (by simp)).trans h.r1)
  generalize ((wr.setCell ⟨w.heap.size, 0, none⟩ (.int .i64 code)).setCell ⟨w.heap.size, 1, none⟩ (.slice a Q.length c)).drew = wf at *
  simp [results, Tryd.results9, go_sem, h4, h5, e0, e1]
theorem made_end2 {w wr : World} {code : Int} {a : Option Addr} {c : Nat} {Q : List Lk} (h : Ms w wr code (.slice a Q.length c) Q) : OwnK w.heap.size ((wr.setCell ⟨w.heap.size, 0, none⟩ (.int .i64 code)).setCell ⟨w.heap.size, 1, none⟩ (.slice a Q.length c)).drew (.slice a Q.length c) Q ∧ Below w.heap.size w ((wr.setCell ⟨w.heap.size, 0, none⟩ (.int .i64 code)).setCell ⟨w.heap.size, 1, none⟩ (.slice a Q.length c)).drew := by
  refine ⟨?_, ?_⟩
  · exact own_mono (ownsRow_setCell_below (ownsRow_setCell_below h.own (by simp) _) (by simp) _) (by omega)
  · exact ((h.bel.setCell (p := ⟨w.heap.size, 0, none⟩) (Nat.le_refl _) _).setCell (p := ⟨w.heap.size, 1, none⟩) (Nat.le_refl _) _).drew

def Made (w : World) (code : Int) (Q : List Lk) (e : Ending) (w' : World) : Prop :=
  ∃ (B : Base) (a : Option Addr) (c : Nat), e = .returned (.tuple #[val B Q.reverse, .agg #[.int .i64 code, .slice a Q.length c]]) ∧ OwnK w.heap.size w' (.slice a Q.length c) Q ∧ Below w.heap.size w w' ∧ (0 ≤ code → B = (.inl code)) ∧ (code < 0 → ∃ v, B = (.inr (.inl v)))

set_option maxHeartbeats 4000000 in
set_option maxRecDepth 20000 in
theorem made_ok (code : Int) (a : Option Addr) (n cap : Nat) (f : Nat → Wp) (w : World) (hR : RowW w a n f) :
    Calls Tryd.prog 9 #[.int .i64 code, .slice a n cap] w (Made w code (lks f (min n 60))) := by
  obtain ⟨i0, hi, hz0, hz1, hz2⟩ := info_parts info50
  have M0 : Hd (Ms w ((w.alloc (.cells #[.int .i64 0, .slice none 0 0] 28)).alloc (.cells #[.int .i64 code, .slice none 0 0] 28)) code (.slice none 0 0) (lks f 0)) := ⟨ms_new w code⟩
  have hR' : Hd (RowW w a n f) := ⟨hR⟩
  clear hR
  by_cases hc : code < 0
  · go_enter Tryd.func9, Tryd.ntmps9
    go_wp2_with (go_at_call 22; refine (new_ok _ _).mono ?_; rintro e w1 ⟨rfl, b1⟩; have M1 : Hd (Ms w w1 code (.slice none 0 0) (lks f 0)) := ⟨M0.out.grown b1⟩; clear b1 M0; have M0 := M1; clear M1)
    go_loopw [7, 8] (fun q i wr => ∃ (k : Nat) (v : Value), k ≤ n ∧ k ≤ 60 ∧ i = .int .i64 k ∧ Hd (q = val (.inr (.inl (.pointer (some ⟨w.heap.size + 1 + 1, 0, none⟩)))) (lks f k).reverse) ∧ Hd (Ms w wr code v (lks f k))) (fun _ i _ => 60 - (intOf i).toNat)
    case atStart => exact ⟨0, _, Nat.zero_le _, Nat.zero_le _, rfl, ⟨rfl⟩, M0⟩
    case round =>
      obtain ⟨k, v, hkn, hk, rfl, HQ, HM⟩ := hrel
      clear M0
      obtain ⟨T, u, hv⟩ : ∃ T u, val (.inr (.inl (.pointer (some ⟨w.heap.size + 1 + 1, 0, none⟩)))) (lks f k).reverse = .iface T u := by
        rcases val_is (.inr (.inl (.pointer (some ⟨w.heap.size + 1 + 1, 0, none⟩)))) (lks f k).reverse with ⟨_, hh⟩ | hh
        · cases hh
        · exact hh
      obtain rfl := HQ.out.trans hv
      by_cases c : k < n ∧ k < 60
      · obtain ⟨c1, c2⟩ := c
        obtain ⟨b, off, hab, hb, hcell⟩ := hR'.out (by omega)
        obtain ⟨q0, q1, q2⟩ := hcell k c1
        obtain ⟨⟨K, L, S⟩, hf⟩ : ∃ x, x = f k := ⟨_, rfl⟩
        rw [← hf] at q0 q1 q2
        have HF : Hd (f k = ⟨K, L, S⟩) := ⟨hf.symm⟩
        have p0 : wr.cell? ⟨b, off + k * 3, none⟩ = some (.int .i64 K) := (HM.out.bel.cell (p := ⟨b, off + k * 3, none⟩) hb).trans q0
        have p1 : wr.cell? ⟨b, off + k * 3 + 1, none⟩ = some (.int .i64 L) := (HM.out.bel.cell (p := ⟨b, off + k * 3 + 1, none⟩) hb).trans q1
        have p2 : wr.cell? ⟨b, off + k * 3 + 2, none⟩ = some (.string S) := (HM.out.bel.cell (p := ⟨b, off + k * 3 + 2, none⟩) hb).trans q2
        have ln : (lks f k).length = k := lks_len f k
        clear q0 q1 q2 hcell hf
        subst hab
        cases e0 : ((IntKind.u64.wrap K).tmod 3 == 0) with
        | true =>
          have hl : Hd (lkOf (f k) = (⟨L, ⟨#[]⟩⟩ : Lk)) := ⟨by rw [HF.out]; unfold lkOf; simp only [e0, cond_true]⟩
          obtain ⟨sy, y1, y2, sz, bz, z1, z2, oz⟩ := made_step HM.out K L ⟨#[]⟩
          obtain ⟨q2, hq2⟩ : ∃ q2, q2 = val (.inr (.inl (.pointer (some ⟨w.heap.size + 1 + 1, 0, none⟩)))) ((⟨L, ⟨#[]⟩⟩ : Lk) :: (lks f k).reverse) := ⟨_, rfl⟩
          have Q2 : Hd (q2 = val (.inr (.inl (.pointer (some ⟨w.heap.size + 1 + 1, 0, none⟩)))) ((⟨L, ⟨#[]⟩⟩ : Lk) :: (lks f k).reverse)) := ⟨hq2⟩
          have C := fun wq => at_ok L (.inr (.inl (.pointer (some ⟨w.heap.size + 1 + 1, 0, none⟩)))) (lks f k).reverse wq T u hv
          rw [hv, ← hq2] at C
          clear hq2
          have OZ : Hd _ := ⟨oz⟩
          have BZ : Hd _ := ⟨bz⟩
          have SZ : Hd _ := ⟨sz⟩
          have MM : Hd (Ms w wr code v (lks f k)) := HM
          have SM := HM.out.sz
          have HZ1 : Hd _ := ⟨z1⟩
          have HZ2 : Hd _ := ⟨z2⟩
          clear bz oz HM HQ hv z1 z2 sz sy
          go_wp2_with (first
            | (go_at_call 17; refine (C _).mono ?_; rintro e w' ⟨rfl, hw⟩; obtain rfl := hw.symm)
            | (at_builtin; go_loud (refine wpList_append_own _ rfl (.tmp 57) (.tmp 63) 26 rfl (w.heap.size + 2) 50 i0 (.agg #[.int .i64 0, .string ByteArray.empty]) 2 24 Tryd.underlying26 hi hz0 hz1 hz2 rfl (by decide) v (lks f k).length (cl (lks f k)) rfl OZ.out ⟨_, 0, none⟩ 1 1 [.int .i64 L, .string ⟨#[]⟩] rfl rfl (one_newK _ _ _ _ (by simp)) (one_cellK _ _) (by unfold maxLen; omega) (by omega) (by rw [SZ.out]; omega) ?_; intro v' w2 hown' hgrow _; obtain ⟨a', c', rfl⟩ := own_shape hown'; obtain ⟨t1, t2, mn⟩ := made_fin MM.out SZ.out BZ.out HZ1.out HZ2.out OZ.out hgrow hown'; have MN : Hd _ := ⟨mn⟩; clear hown' hgrow mn)))
          go_roundw
          case rel => exact ⟨k + 1, _, by omega, by omega, by go_num, ⟨by rw [lks_succ, hl.out, List.reverse_append]; exact Q2.out⟩, ⟨by have := MN.out; rw [ln] at this; rw [lks_succ, hl.out]; exact this⟩⟩
          case measure => simp [intOf]; omega
        | false =>
          cases e1 : ((IntKind.u64.wrap K).tmod 3 == 1) with
          | true =>
            have hl : Hd (lkOf (f k) = (⟨0, S⟩ : Lk)) := ⟨by rw [HF.out]; unfold lkOf; simp only [e0, e1, cond_true, cond_false]⟩
            obtain ⟨sy, y1, y2, sz, bz, z1, z2, oz⟩ := made_step HM.out K 0 S
            obtain ⟨q2, hq2⟩ : ∃ q2, q2 = val (.inr (.inl (.pointer (some ⟨w.heap.size + 1 + 1, 0, none⟩)))) ((⟨0, S⟩ : Lk) :: (lks f k).reverse) := ⟨_, rfl⟩
            have Q2 : Hd (q2 = val (.inr (.inl (.pointer (some ⟨w.heap.size + 1 + 1, 0, none⟩)))) ((⟨0, S⟩ : Lk) :: (lks f k).reverse)) := ⟨hq2⟩
            have C := fun wq => of_ok S (.inr (.inl (.pointer (some ⟨w.heap.size + 1 + 1, 0, none⟩)))) (lks f k).reverse wq T u hv
            rw [hv, ← hq2] at C
            clear hq2
            have OZ : Hd _ := ⟨oz⟩
            have BZ : Hd _ := ⟨bz⟩
            have SZ : Hd _ := ⟨sz⟩
            have MM : Hd (Ms w wr code v (lks f k)) := HM
            have SM := HM.out.sz
            have HZ1 : Hd _ := ⟨z1⟩
            have HZ2 : Hd _ := ⟨z2⟩
            clear bz oz HM HQ hv z1 z2 sz sy
            go_wp2_with (first
              | (go_at_call 18; refine (C _).mono ?_; rintro e w' ⟨rfl, hw⟩; obtain rfl := hw.symm)
              | (at_builtin; go_loud (refine wpList_append_own _ rfl (.tmp 57) (.tmp 63) 26 rfl (w.heap.size + 2) 50 i0 (.agg #[.int .i64 0, .string ByteArray.empty]) 2 24 Tryd.underlying26 hi hz0 hz1 hz2 rfl (by decide) v (lks f k).length (cl (lks f k)) rfl OZ.out ⟨_, 0, none⟩ 1 1 [.int .i64 0, .string S] rfl rfl (one_newK _ _ _ _ (by simp)) (one_cellK _ _) (by unfold maxLen; omega) (by omega) (by rw [SZ.out]; omega) ?_; intro v' w2 hown' hgrow _; obtain ⟨a', c', rfl⟩ := own_shape hown'; obtain ⟨t1, t2, mn⟩ := made_fin MM.out SZ.out BZ.out HZ1.out HZ2.out OZ.out hgrow hown'; have MN : Hd _ := ⟨mn⟩; clear hown' hgrow mn)))
            go_roundw
            case rel => exact ⟨k + 1, _, by omega, by omega, by go_num, ⟨by rw [lks_succ, hl.out, List.reverse_append]; exact Q2.out⟩, ⟨by have := MN.out; rw [ln] at this; rw [lks_succ, hl.out]; exact this⟩⟩
            case measure => simp [intOf]; omega
          | false =>
            have hl : Hd (lkOf (f k) = (⟨L, S⟩ : Lk)) := ⟨by rw [HF.out]; unfold lkOf; simp only [e0, e1, cond_false]⟩
            obtain ⟨sy, y1, y2, sz, bz, z1, z2, oz⟩ := made_step HM.out K L S
            obtain ⟨q2, hq2⟩ : ∃ q2, q2 = val (.inr (.inl (.pointer (some ⟨w.heap.size + 1 + 1, 0, none⟩)))) ((⟨L, S⟩ : Lk) :: (lks f k).reverse) := ⟨_, rfl⟩
            have Q2 : Hd (q2 = val (.inr (.inl (.pointer (some ⟨w.heap.size + 1 + 1, 0, none⟩)))) ((⟨L, S⟩ : Lk) :: (lks f k).reverse)) := ⟨hq2⟩
            obtain rfl : q2 = .iface 44 (.agg #[.int .i64 L, .string S, .iface T u]) := by rw [hq2, ← hv]; rfl
            clear hq2
            have OZ : Hd _ := ⟨oz⟩
            have BZ : Hd _ := ⟨bz⟩
            have SZ : Hd _ := ⟨sz⟩
            have MM : Hd (Ms w wr code v (lks f k)) := HM
            have SM := HM.out.sz
            have HZ1 : Hd _ := ⟨z1⟩
            have HZ2 : Hd _ := ⟨z2⟩
            clear bz oz HM HQ hv z1 z2 sz sy
            go_wp2_with (at_builtin; go_loud (refine wpList_append_own _ rfl (.tmp 57) (.tmp 63) 26 rfl (w.heap.size + 2) 50 i0 (.agg #[.int .i64 0, .string ByteArray.empty]) 2 24 Tryd.underlying26 hi hz0 hz1 hz2 rfl (by decide) v (lks f k).length (cl (lks f k)) rfl OZ.out ⟨_, 0, none⟩ 1 1 [.int .i64 L, .string S] rfl rfl (one_newK _ _ _ _ (by simp)) (one_cellK _ _) (by unfold maxLen; omega) (by omega) (by rw [SZ.out]; omega) ?_; intro v' w2 hown' hgrow _; obtain ⟨a', c', rfl⟩ := own_shape hown'; obtain ⟨t1, t2, mn⟩ := made_fin MM.out SZ.out BZ.out HZ1.out HZ2.out OZ.out hgrow hown'; have MN : Hd _ := ⟨mn⟩; clear hown' hgrow mn))
            go_roundw
            case rel => exact ⟨k + 1, _, by omega, by omega, by go_num, ⟨by rw [lks_succ, hl.out, List.reverse_append]; exact Q2.out⟩, ⟨by have := MN.out; rw [ln] at this; rw [lks_succ, hl.out]; exact this⟩⟩
            case measure => simp [intOf]; omega
      · have hmin : Hd (min n 60 = k) := ⟨by omega⟩
        obtain ⟨a', c', hv'⟩ := own_shape HM.out.own
        rw [hv'] at HM
        have HF1 := made_end1 HM.out (.iface T u)
        have HF2 : Hd _ := ⟨made_end2 HM.out⟩
        have HV : Hd (val (.inr (.inl (.pointer (some ⟨w.heap.size + 1 + 1, 0, none⟩)))) (lks f k).reverse = .iface T u) := ⟨hv⟩
        obtain ⟨s1, s2, r0, r1, g0, g1, x0, x1, x2, ow⟩ := HM.out
        clear s1 ow hR' hv' hv HQ HM
        by_cases c1 : k < n
        · have c2 : ¬ k < 60 := fun h => c ⟨c1, h⟩
          clear c
          go_wp2
          go_region
          all_goals (try go_wp2)
          refine bodyPost_ret (HF1 _ rfl rfl) rfl ?_
          unfold Made
          rw [hmin.out]
          exact ⟨(.inr (.inl (.pointer (some ⟨w.heap.size + 1 + 1, 0, none⟩)))), a', c', by rw [HV.out], HF2.out.1, HF2.out.2, fun h => absurd h (by omega), fun _ => ⟨_, rfl⟩⟩
        · clear c
          go_wp2
          go_region
          all_goals (try go_wp2)
          refine bodyPost_ret (HF1 _ rfl rfl) rfl ?_
          unfold Made
          rw [hmin.out]
          exact ⟨(.inr (.inl (.pointer (some ⟨w.heap.size + 1 + 1, 0, none⟩)))), a', c', by rw [HV.out], HF2.out.1, HF2.out.2, fun h => absurd h (by omega), fun _ => ⟨_, rfl⟩⟩
  · go_enter Tryd.func9, Tryd.ntmps9
    go_wp2
    go_loopw [7, 8] (fun q i wr => ∃ (k : Nat) (v : Value), k ≤ n ∧ k ≤ 60 ∧ i = .int .i64 k ∧ Hd (q = val (.inl code) (lks f k).reverse) ∧ Hd (Ms w wr code v (lks f k))) (fun _ i _ => 60 - (intOf i).toNat)
    case atStart => exact ⟨0, _, Nat.zero_le _, Nat.zero_le _, rfl, ⟨rfl⟩, M0⟩
    case round =>
      obtain ⟨k, v, hkn, hk, rfl, HQ, HM⟩ := hrel
      clear M0
      obtain ⟨T, u, hv⟩ : ∃ T u, val (.inl code) (lks f k).reverse = .iface T u := by
        rcases val_is (.inl code) (lks f k).reverse with ⟨_, hh⟩ | hh
        · cases hh
        · exact hh
      obtain rfl := HQ.out.trans hv
      by_cases c : k < n ∧ k < 60
      · obtain ⟨c1, c2⟩ := c
        obtain ⟨b, off, hab, hb, hcell⟩ := hR'.out (by omega)
        obtain ⟨q0, q1, q2⟩ := hcell k c1
        obtain ⟨⟨K, L, S⟩, hf⟩ : ∃ x, x = f k := ⟨_, rfl⟩
        rw [← hf] at q0 q1 q2
        have HF : Hd (f k = ⟨K, L, S⟩) := ⟨hf.symm⟩
        have p0 : wr.cell? ⟨b, off + k * 3, none⟩ = some (.int .i64 K) := (HM.out.bel.cell (p := ⟨b, off + k * 3, none⟩) hb).trans q0
        have p1 : wr.cell? ⟨b, off + k * 3 + 1, none⟩ = some (.int .i64 L) := (HM.out.bel.cell (p := ⟨b, off + k * 3 + 1, none⟩) hb).trans q1
        have p2 : wr.cell? ⟨b, off + k * 3 + 2, none⟩ = some (.string S) := (HM.out.bel.cell (p := ⟨b, off + k * 3 + 2, none⟩) hb).trans q2
        have ln : (lks f k).length = k := lks_len f k
        clear q0 q1 q2 hcell hf
        subst hab
        cases e0 : ((IntKind.u64.wrap K).tmod 3 == 0) with
        | true =>
          have hl : Hd (lkOf (f k) = (⟨L, ⟨#[]⟩⟩ : Lk)) := ⟨by rw [HF.out]; unfold lkOf; simp only [e0, cond_true]⟩
          obtain ⟨sy, y1, y2, sz, bz, z1, z2, oz⟩ := made_step HM.out K L ⟨#[]⟩
          obtain ⟨q2, hq2⟩ : ∃ q2, q2 = val (.inl code) ((⟨L, ⟨#[]⟩⟩ : Lk) :: (lks f k).reverse) := ⟨_, rfl⟩
          have Q2 : Hd (q2 = val (.inl code) ((⟨L, ⟨#[]⟩⟩ : Lk) :: (lks f k).reverse)) := ⟨hq2⟩
          have C := fun wq => at_ok L (.inl code) (lks f k).reverse wq T u hv
          rw [hv, ← hq2] at C
          clear hq2
          have OZ : Hd _ := ⟨oz⟩
          have BZ : Hd _ := ⟨bz⟩
          have SZ : Hd _ := ⟨sz⟩
          have MM : Hd (Ms w wr code v (lks f k)) := HM
          have SM := HM.out.sz
          have HZ1 : Hd _ := ⟨z1⟩
          have HZ2 : Hd _ := ⟨z2⟩
          clear bz oz HM HQ hv z1 z2 sz sy
          go_wp2_with (first
            | (go_at_call 17; refine (C _).mono ?_; rintro e w' ⟨rfl, hw⟩; obtain rfl := hw.symm)
            | (at_builtin; go_loud (refine wpList_append_own _ rfl (.tmp 57) (.tmp 63) 26 rfl (w.heap.size + 2) 50 i0 (.agg #[.int .i64 0, .string ByteArray.empty]) 2 24 Tryd.underlying26 hi hz0 hz1 hz2 rfl (by decide) v (lks f k).length (cl (lks f k)) rfl OZ.out ⟨_, 0, none⟩ 1 1 [.int .i64 L, .string ⟨#[]⟩] rfl rfl (one_newK _ _ _ _ (by simp)) (one_cellK _ _) (by unfold maxLen; omega) (by omega) (by rw [SZ.out]; omega) ?_; intro v' w2 hown' hgrow _; obtain ⟨a', c', rfl⟩ := own_shape hown'; obtain ⟨t1, t2, mn⟩ := made_fin MM.out SZ.out BZ.out HZ1.out HZ2.out OZ.out hgrow hown'; have MN : Hd _ := ⟨mn⟩; clear hown' hgrow mn)))
          go_roundw
          case rel => exact ⟨k + 1, _, by omega, by omega, by go_num, ⟨by rw [lks_succ, hl.out, List.reverse_append]; exact Q2.out⟩, ⟨by have := MN.out; rw [ln] at this; rw [lks_succ, hl.out]; exact this⟩⟩
          case measure => simp [intOf]; omega
        | false =>
          cases e1 : ((IntKind.u64.wrap K).tmod 3 == 1) with
          | true =>
            have hl : Hd (lkOf (f k) = (⟨0, S⟩ : Lk)) := ⟨by rw [HF.out]; unfold lkOf; simp only [e0, e1, cond_true, cond_false]⟩
            obtain ⟨sy, y1, y2, sz, bz, z1, z2, oz⟩ := made_step HM.out K 0 S
            obtain ⟨q2, hq2⟩ : ∃ q2, q2 = val (.inl code) ((⟨0, S⟩ : Lk) :: (lks f k).reverse) := ⟨_, rfl⟩
            have Q2 : Hd (q2 = val (.inl code) ((⟨0, S⟩ : Lk) :: (lks f k).reverse)) := ⟨hq2⟩
            have C := fun wq => of_ok S (.inl code) (lks f k).reverse wq T u hv
            rw [hv, ← hq2] at C
            clear hq2
            have OZ : Hd _ := ⟨oz⟩
            have BZ : Hd _ := ⟨bz⟩
            have SZ : Hd _ := ⟨sz⟩
            have MM : Hd (Ms w wr code v (lks f k)) := HM
            have SM := HM.out.sz
            have HZ1 : Hd _ := ⟨z1⟩
            have HZ2 : Hd _ := ⟨z2⟩
            clear bz oz HM HQ hv z1 z2 sz sy
            go_wp2_with (first
              | (go_at_call 18; refine (C _).mono ?_; rintro e w' ⟨rfl, hw⟩; obtain rfl := hw.symm)
              | (at_builtin; go_loud (refine wpList_append_own _ rfl (.tmp 57) (.tmp 63) 26 rfl (w.heap.size + 2) 50 i0 (.agg #[.int .i64 0, .string ByteArray.empty]) 2 24 Tryd.underlying26 hi hz0 hz1 hz2 rfl (by decide) v (lks f k).length (cl (lks f k)) rfl OZ.out ⟨_, 0, none⟩ 1 1 [.int .i64 0, .string S] rfl rfl (one_newK _ _ _ _ (by simp)) (one_cellK _ _) (by unfold maxLen; omega) (by omega) (by rw [SZ.out]; omega) ?_; intro v' w2 hown' hgrow _; obtain ⟨a', c', rfl⟩ := own_shape hown'; obtain ⟨t1, t2, mn⟩ := made_fin MM.out SZ.out BZ.out HZ1.out HZ2.out OZ.out hgrow hown'; have MN : Hd _ := ⟨mn⟩; clear hown' hgrow mn)))
            go_roundw
            case rel => exact ⟨k + 1, _, by omega, by omega, by go_num, ⟨by rw [lks_succ, hl.out, List.reverse_append]; exact Q2.out⟩, ⟨by have := MN.out; rw [ln] at this; rw [lks_succ, hl.out]; exact this⟩⟩
            case measure => simp [intOf]; omega
          | false =>
            have hl : Hd (lkOf (f k) = (⟨L, S⟩ : Lk)) := ⟨by rw [HF.out]; unfold lkOf; simp only [e0, e1, cond_false]⟩
            obtain ⟨sy, y1, y2, sz, bz, z1, z2, oz⟩ := made_step HM.out K L S
            obtain ⟨q2, hq2⟩ : ∃ q2, q2 = val (.inl code) ((⟨L, S⟩ : Lk) :: (lks f k).reverse) := ⟨_, rfl⟩
            have Q2 : Hd (q2 = val (.inl code) ((⟨L, S⟩ : Lk) :: (lks f k).reverse)) := ⟨hq2⟩
            obtain rfl : q2 = .iface 44 (.agg #[.int .i64 L, .string S, .iface T u]) := by rw [hq2, ← hv]; rfl
            clear hq2
            have OZ : Hd _ := ⟨oz⟩
            have BZ : Hd _ := ⟨bz⟩
            have SZ : Hd _ := ⟨sz⟩
            have MM : Hd (Ms w wr code v (lks f k)) := HM
            have SM := HM.out.sz
            have HZ1 : Hd _ := ⟨z1⟩
            have HZ2 : Hd _ := ⟨z2⟩
            clear bz oz HM HQ hv z1 z2 sz sy
            go_wp2_with (at_builtin; go_loud (refine wpList_append_own _ rfl (.tmp 57) (.tmp 63) 26 rfl (w.heap.size + 2) 50 i0 (.agg #[.int .i64 0, .string ByteArray.empty]) 2 24 Tryd.underlying26 hi hz0 hz1 hz2 rfl (by decide) v (lks f k).length (cl (lks f k)) rfl OZ.out ⟨_, 0, none⟩ 1 1 [.int .i64 L, .string S] rfl rfl (one_newK _ _ _ _ (by simp)) (one_cellK _ _) (by unfold maxLen; omega) (by omega) (by rw [SZ.out]; omega) ?_; intro v' w2 hown' hgrow _; obtain ⟨a', c', rfl⟩ := own_shape hown'; obtain ⟨t1, t2, mn⟩ := made_fin MM.out SZ.out BZ.out HZ1.out HZ2.out OZ.out hgrow hown'; have MN : Hd _ := ⟨mn⟩; clear hown' hgrow mn))
            go_roundw
            case rel => exact ⟨k + 1, _, by omega, by omega, by go_num, ⟨by rw [lks_succ, hl.out, List.reverse_append]; exact Q2.out⟩, ⟨by have := MN.out; rw [ln] at this; rw [lks_succ, hl.out]; exact this⟩⟩
            case measure => simp [intOf]; omega
      · have hmin : Hd (min n 60 = k) := ⟨by omega⟩
        obtain ⟨a', c', hv'⟩ := own_shape HM.out.own
        rw [hv'] at HM
        have HF1 := made_end1 HM.out (.iface T u)
        have HF2 : Hd _ := ⟨made_end2 HM.out⟩
        have HV : Hd (val (.inl code) (lks f k).reverse = .iface T u) := ⟨hv⟩
        obtain ⟨s1, s2, r0, r1, g0, g1, x0, x1, x2, ow⟩ := HM.out
        clear s1 ow hR' hv' hv HQ HM
        by_cases c1 : k < n
        · have c2 : ¬ k < 60 := fun h => c ⟨c1, h⟩
          clear c
          go_wp2
          go_region
          all_goals (try go_wp2)
          refine bodyPost_ret (HF1 _ rfl rfl) rfl ?_
          unfold Made
          rw [hmin.out]
          exact ⟨(.inl code), a', c', by rw [HV.out], HF2.out.1, HF2.out.2, fun _ => rfl, fun h => absurd h (by omega)⟩
        · clear c
          go_wp2
          go_region
          all_goals (try go_wp2)
          refine bodyPost_ret (HF1 _ rfl rfl) rfl ?_
          unfold Made
          rw [hmin.out]
          exact ⟨(.inl code), a', c', by rw [HV.out], HF2.out.1, HF2.out.2, fun _ => rfl, fun h => absurd h (by omega)⟩

end Go.Proofs.YtndandkanamjoaaDoor
