/-
  Begin, by the reference; what every program answers that is awake. Conditions: the book lies in memory, and is short.
-/
import Derived.Test.YtomkmgebbiahcaaBw
import Derived.Test.YtomkmgebbiahcaaOrQ
namespace Go.Proofs.Ytomkmgebbiahcaa
open Go.RowKit

set_option maxRecDepth 20000 in
set_option maxHeartbeats 2000000 in
theorem rbegin_ok (a : Option Addr) (c : Nat) (L : List En) (x : En) (w : World) (h : SlE w a c L) (hl : L.length ≤ 1900) :
    Calls Try.prog 8 #[.slice a L.length c, .agg #[.int .i64 x.id, .int .i64 x.ph, .string x.lv]] w fun e w' => Ans w w' e (bgL x L) (bgE x L) := by
  obtain ⟨w1, hw1⟩ : ∃ w1, w1 = w.alloc (.cells #[.int .i64 x.id, .int .i64 x.ph, .string x.lv] 24) := ⟨_, rfl⟩
  have B : Hd (Below w.heap.size w w1) := ⟨by rw [hw1]; exact alloc_below _ _⟩
  have N1 : Hd (Blk w1 w.heap.size 24 (enA x)) := ⟨by rw [hw1]; exact Blk.new _ _ _⟩
  have F := rfind_ok a c L x.id w1 (h.2.2.carry B.out) (by omega)
  unfold fdV enV at F
  have H : Hd (∀ W, Below w1.heap.size w1 W → SlE W a c L ∧ Blk W w.heap.size 24 (enA x) ∧ Below w.heap.size w W) := ⟨fun W b => ⟨(h.carry B.out).carry b, N1.out.kept (Kept.of_below b (fun _ => False)) id, B.out.trans (b.mono B.out.size)⟩⟩
  obtain ⟨⟨c0, c1, c2⟩, -⟩ := N1.out.three
  obtain ⟨z, hz⟩ : ∃ z, z = fE x.id L := ⟨_, rfl⟩
  obtain ⟨n, hn⟩ : ∃ n, L.length = n := ⟨_, rfl⟩
  have HL : Hd (L.length = n) := ⟨hn⟩
  rw [hn] at hl F ⊢
  rw [← hz] at F
  obtain ⟨z0, z1, z2⟩ := z
  simp only at F
  by_cases ho : okE x
  · obtain ⟨o1, o2, o3, o4⟩ := id ho
    have K : x.ph = 1 ∨ x.ph = 2 ∨ x.ph = 3 := by omega
    have ob1 : ¬ x.id < 0 := by omega
    have ob2 : ¬ 999999999 < x.id := by omega
    cases hb : fB x.id L with
    | true =>
      have E : Hd (_ ∧ _) := ⟨bg_twice ho hb⟩
      rw [hb] at F
      clear h hb ho N1 hz hn o1 o2 o3 o4
      obtain ⟨x0, x1, x2⟩ := x
      simp only at c0 c1 c2 ob1 ob2 F hw1 K H
      rcases K with rfl | rfl | rfl
      all_goals
        go_enter Try.func8, Try.ntmps8
        go_upto_region 1 with fail
        rw [← hw1]
        clear hw1
        go_wp2_with fail
        go_at_call 13
        refine F.mono ?_
        rintro e w3 ⟨rfl, b3⟩
        obtain ⟨w4, hw4⟩ : ∃ w4, w4 = w3.alloc (.cells #[.int .i64 z0, .int .i64 z1, .string z2] 24) := ⟨_, rfl⟩
        have R := (H.out w4 (by rw [hw4]; exact b3.alloc b3.size _)).2.2
        have RR : Hd _ := ⟨R⟩
        clear R
        go_upto_region 4 with fail
        rw [← hw4]
        clear hw4
        go_wp2
        go_ret2
        exact ⟨⟨_, by rw [E.out.1]; rfl, by rw [E.out.2]; exact OwE.nil _ _⟩, RR.out⟩
    | false =>
      have E : Hd (_ ∧ _) := ⟨bg_ok ho hb⟩
      rw [hb] at F
      clear h hb ho N1 hz hn o1 o2 o3 o4
      obtain ⟨x0, x1, x2⟩ := x
      simp only at c0 c1 c2 ob1 ob2 F hw1 K H E
      obtain ⟨A, hA⟩ : ∃ A, A = w.heap.size := ⟨_, rfl⟩
      have HA : Hd (A = w.heap.size) := ⟨hA⟩
      obtain ⟨y1, hy⟩ : ∃ y1, y1 = x1 := ⟨_, rfl⟩
      have E : Hd (bgE ⟨x0, x1, x2⟩ L = 0 ∧ bgL ⟨x0, x1, x2⟩ L = L ++ [(⟨x0, y1, x2⟩ : En)]) := ⟨by rw [hy]; exact E.out⟩
      have HY : Hd (y1 = x1) := ⟨hy⟩
      clear hy
      rcases K with rfl | rfl | rfl
      all_goals
        go_enter Try.func8, Try.ntmps8
        go_upto_region 1 with fail
        rw [← hw1]
        clear hw1
        go_wp2_with fail
        go_at_call 13
        refine F.mono ?_
        rintro e w3 ⟨rfl, b3⟩
        obtain ⟨w4, hw4⟩ : ∃ w4, w4 = w3.alloc (.cells #[.int .i64 z0, .int .i64 z1, .string z2] 24) := ⟨_, rfl⟩
        obtain ⟨R1, R2, R3⟩ := H.out w4 (by rw [hw4]; exact b3.alloc b3.size _)
        have B5 : Hd (Below w.heap.size w w4.drew) := ⟨R3.drew⟩
        have M5 : Hd (Blk w4.drew w.heap.size 24 (enA ⟨x0, y1, x2⟩)) := ⟨by rw [HY.out]; exact R2⟩
        have H5 : Hd (∀ W, Below w4.drew.heap.size w4.drew W → SlE W a c L) := ⟨fun W b => (H.out w4 (by rw [hw4]; exact b3.alloc b3.size _)).1.carry (⟨b.os, b.tape, b.output, b.size, b.block⟩ : Below w4.heap.size w4 W)⟩
        go_upto_region 6 with fail
        rw [← hw4]
        clear hw4 b3 F c0 c1 c2 R1 R2 R3 H
        unfold enA at M5
        rw [← hA] at M5 ⊢
        clear hA
        refine AnyG.start (T := fun W => Blk W A 24 #[.int .i64 x0, .int .i64 y1, .string x2]) (U := fun _ => True) (j0 := 100) (by kernel_rfl) ?_
        generalize w4.drew = w5 at *
        refine .tq 1 40 M5.out ?_; simp only [oqA, oqB, oqC]
        refine .tq 3 42 M5.out ?_ (hy := fun w hSw => by have s0 := Blk.cellv hSw 0 rfl; have s1 := Blk.cellv hSw 1 rfl; have s2 := Blk.cellv hSw 2 rfl; go_simp; rfl); simp only [oqA, oqB, oqC]
        refine AnyG.ready (rs := [0, 4]) (by kernel_rfl) (by simp) ?_
        refine AllG.cons rfl (fun K hK => ?_) ?_
        · skip
          go_simp
          have Twa0 : Blk (w5.alloc (.cells #[] 24)) A 24 #[.int .i64 x0, .int .i64 y1, .string x2] := M5.out.alloc _
          have Bwa0 : Below w5.heap.size w5 (w5.alloc (.cells #[] 24)) := (Below.refl w5.heap.size w5).alloc (Below.refl w5.heap.size w5).size _
          have Lwa0 := (H5.out w5 (Below.refl _ _)).carry (alloc_below w5 (.cells #[] 24))
          have Owa0 := OwE.lit w5 w5.heap.size (Below.refl w5.heap.size w5).size
          have Ewa0 : ∃ g, g = w5.heap.size := ⟨_, rfl⟩
          refine hK.out _ _ ⟨Twa0, fun _ => trivial⟩ ?_
          clear hK K
          have Xwa0 : w5.heap.size < (w5.alloc (.cells #[] 24)).heap.size := by simp
          generalize w5.alloc (.cells #[] 24) = wa0 at *
          refine AnyG.ready (rs := [2, 4]) (by kernel_rfl) (by simp) ?_
          refine AllG.cons rfl (fun K hK => ?_) ?_
          · skip
            refine step_ens rfl _ _ rfl w5.heap.size _ [] L rfl Owa0 a n c HL.out rfl Lwa0 (by have := HL.out; simp; omega) Bwa0.size ?_
            intro vwb2 wb2 Owb2 gwb2
            have Bwb2 := Owa0.below Bwa0 Bwa0.size gwb2
            have Twb2 : Blk wb2 A 24 #[.int .i64 x0, .int .i64 y1, .string x2] := M5.out.kept (Kept.of_below Bwb2 (fun _ => False)) id
            have Lwb2 := H5.out wb2 Bwb2
            refine hK.out _ _ ⟨Twb2, fun _ => trivial⟩ ?_
            clear hK K
            refine AnyG.ready (rs := [4]) (by kernel_rfl) (by simp) ?_
            refine AllG.cons rfl (fun K hK => ?_) AllG.nil
            go_simp
            have Twc4 : Blk (wb2.alloc (.cells #[.int .i64 x0, .int .i64 y1, .string x2] 24)) A 24 #[.int .i64 x0, .int .i64 y1, .string x2] := Twb2.alloc _
            have Bwc4 : Below w5.heap.size w5 (wb2.alloc (.cells #[.int .i64 x0, .int .i64 y1, .string x2] 24)) := Bwb2.alloc Bwb2.size _
            have Lwc4 := Lwb2.carry (alloc_below wb2 (.cells #[.int .i64 x0, .int .i64 y1, .string x2] 24))
            have Swc4 := one_listE (t := ⟨x0, y1, x2⟩) (Blk.new wb2 24 #[.int .i64 x0, .int .i64 y1, .string x2])
            have Xwc4 : wb2.heap.size < (wb2.alloc (.cells #[.int .i64 x0, .int .i64 y1, .string x2] 24)).heap.size := by simp
            have Owc4 : OwE (wb2.alloc (.cells #[.int .i64 x0, .int .i64 y1, .string x2] 24)) w5.heap.size vwb2 L := World.ownsRow.alloc Owb2 _
            refine hK.out _ _ ⟨Twc4, fun _ => trivial⟩ ?_
            clear hK K
            generalize wb2.alloc (.cells #[.int .i64 x0, .int .i64 y1, .string x2] 24) = wc4 at *
            generalize wb2.heap.size = qwc4 at *
            refine AnyG.ready (rs := [5]) (by kernel_rfl) (by simp) ?_
            refine AllG.cons rfl (fun K hK => ?_) AllG.nil
            refine step_ens rfl _ _ rfl w5.heap.size _ L [(⟨x0, y1, x2⟩ : En)] rfl Owc4 (some ⟨qwc4, 0, none⟩) 1 1 rfl rfl Swc4 (by have := HL.out; simp; omega) Bwc4.size ?_
            intro vwd5 wd5 Owd5 gwd5
            have Bwd5 := Owc4.below Bwc4 Bwc4.size gwd5
            have Twd5 : Blk wd5 A 24 #[.int .i64 x0, .int .i64 y1, .string x2] := M5.out.kept (Kept.of_below Bwd5 (fun _ => False)) id
            refine hK.out _ _ ⟨Twd5, fun _ => trivial⟩ ?_
            clear hK K
            refine AnyG.ready (rs := [6]) (by kernel_rfl) (by simp) ?_
            refine AllG.cons rfl (fun K hK => ?_) AllG.nil
            go_simp
            refine hK.out _ _ ⟨Twd5, fun _ => trivial⟩ ?_
            clear hK K
            refine AnyG.ready (rs := [7]) (by kernel_rfl) (by simp) ?_
            refine AllG.cons rfl (fun K hK => ?_) AllG.nil
            go_simp
            refine hK.out _ _ ⟨Twd5, fun _ => trivial⟩ ?_
            clear hK K
            refine AnyG.done (by kernel_rfl) ?_ _
            have R : Hd (OwE wd5 w5.heap.size vwd5 (L ++ [(⟨x0, y1, x2⟩ : En)]) ∧ Below w5.heap.size w5 wd5) := ⟨Owd5, Bwd5⟩
            go_wp2_with fail
            go_ret2
            exact ⟨⟨_, by rw [E.out.1]; rfl, by rw [E.out.2]; exact R.out.1.low B5.out.size⟩, B5.out.trans (R.out.2.mono B5.out.size)⟩
          refine AllG.cons rfl (fun K hK => ?_) AllG.nil
          go_simp
          have Twb4 : Blk (wa0.alloc (.cells #[.int .i64 x0, .int .i64 y1, .string x2] 24)) A 24 #[.int .i64 x0, .int .i64 y1, .string x2] := Twa0.alloc _
          have Bwb4 : Below w5.heap.size w5 (wa0.alloc (.cells #[.int .i64 x0, .int .i64 y1, .string x2] 24)) := Bwa0.alloc Bwa0.size _
          have Lwb4 := Lwa0.carry (alloc_below wa0 (.cells #[.int .i64 x0, .int .i64 y1, .string x2] 24))
          have Swb4 := one_listE (t := ⟨x0, y1, x2⟩) (Blk.new wa0 24 #[.int .i64 x0, .int .i64 y1, .string x2])
          have Xwb4 : wa0.heap.size < (wa0.alloc (.cells #[.int .i64 x0, .int .i64 y1, .string x2] 24)).heap.size := by simp
          have Owb4 : OwE (wa0.alloc (.cells #[.int .i64 x0, .int .i64 y1, .string x2] 24)) w5.heap.size (.slice (some ⟨w5.heap.size, 0, none⟩) 0 0) [] := World.ownsRow.alloc Owa0 _
          have Qwb4 : wa0.heap.size ≠ w5.heap.size := by have := Xwa0; omega
          refine hK.out _ _ ⟨Twb4, fun _ => trivial⟩ ?_
          clear hK K
          generalize wa0.alloc (.cells #[.int .i64 x0, .int .i64 y1, .string x2] 24) = wb4 at *
          generalize wa0.heap.size = qwb4 at *
          refine AnyG.ready (rs := [2]) (by kernel_rfl) (by simp) ?_
          refine AllG.cons rfl (fun K hK => ?_) AllG.nil
          refine step_ens rfl _ _ rfl w5.heap.size _ [] L rfl Owb4 a n c HL.out rfl Lwb4 (by have := HL.out; simp; omega) Bwb4.size ?_
          intro vwc2 wc2 Owc2 gwc2
          have Bwc2 := Owb4.below Bwb4 Bwb4.size gwc2
          have Twc2 : Blk wc2 A 24 #[.int .i64 x0, .int .i64 y1, .string x2] := M5.out.kept (Kept.of_below Bwc2 (fun _ => False)) id
          have Swc2 : SlE wc2 (some ⟨qwb4, 0, none⟩) 1 [(⟨x0, y1, x2⟩ : En)] := ⟨Swb4.1, Swb4.2.1, Swb4.2.2.keep (Kept.of_grown (S := fun k => k = w5.heap.size) gwc2 (fun k e => by injection e with e; exact e.symm)) (fun b off e => by injection e with e; injection e with e1 e2; subst e1; exact Qwb4)⟩
          have Lwc2 := H5.out wc2 Bwc2
          refine hK.out _ _ ⟨Twc2, fun _ => trivial⟩ ?_
          clear hK K
          refine AnyG.ready (rs := [5]) (by kernel_rfl) (by simp) ?_
          refine AllG.cons rfl (fun K hK => ?_) AllG.nil
          refine step_ens rfl _ _ rfl w5.heap.size _ L [(⟨x0, y1, x2⟩ : En)] rfl Owc2 (some ⟨qwb4, 0, none⟩) 1 1 rfl rfl Swc2 (by have := HL.out; simp; omega) Bwc2.size ?_
          intro vwd5 wd5 Owd5 gwd5
          have Bwd5 := Owc2.below Bwc2 Bwc2.size gwd5
          have Twd5 : Blk wd5 A 24 #[.int .i64 x0, .int .i64 y1, .string x2] := M5.out.kept (Kept.of_below Bwd5 (fun _ => False)) id
          refine hK.out _ _ ⟨Twd5, fun _ => trivial⟩ ?_
          clear hK K
          refine AnyG.ready (rs := [6]) (by kernel_rfl) (by simp) ?_
          refine AllG.cons rfl (fun K hK => ?_) AllG.nil
          go_simp
          refine hK.out _ _ ⟨Twd5, fun _ => trivial⟩ ?_
          clear hK K
          refine AnyG.ready (rs := [7]) (by kernel_rfl) (by simp) ?_
          refine AllG.cons rfl (fun K hK => ?_) AllG.nil
          go_simp
          refine hK.out _ _ ⟨Twd5, fun _ => trivial⟩ ?_
          clear hK K
          refine AnyG.done (by kernel_rfl) ?_ _
          have R : Hd (OwE wd5 w5.heap.size vwd5 (L ++ [(⟨x0, y1, x2⟩ : En)]) ∧ Below w5.heap.size w5 wd5) := ⟨Owd5, Bwd5⟩
          go_wp2_with fail
          go_ret2
          exact ⟨⟨_, by rw [E.out.1]; rfl, by rw [E.out.2]; exact R.out.1.low B5.out.size⟩, B5.out.trans (R.out.2.mono B5.out.size)⟩
        refine AllG.cons rfl (fun K hK => ?_) AllG.nil
        go_simp
        have Twa4 : Blk (w5.alloc (.cells #[.int .i64 x0, .int .i64 y1, .string x2] 24)) A 24 #[.int .i64 x0, .int .i64 y1, .string x2] := M5.out.alloc _
        have Bwa4 : Below w5.heap.size w5 (w5.alloc (.cells #[.int .i64 x0, .int .i64 y1, .string x2] 24)) := (Below.refl w5.heap.size w5).alloc (Below.refl w5.heap.size w5).size _
        have Lwa4 := (H5.out w5 (Below.refl _ _)).carry (alloc_below w5 (.cells #[.int .i64 x0, .int .i64 y1, .string x2] 24))
        have Swa4 := one_listE (t := ⟨x0, y1, x2⟩) (Blk.new w5 24 #[.int .i64 x0, .int .i64 y1, .string x2])
        have Xwa4 : w5.heap.size < (w5.alloc (.cells #[.int .i64 x0, .int .i64 y1, .string x2] 24)).heap.size := by simp
        refine hK.out _ _ ⟨Twa4, fun _ => trivial⟩ ?_
        clear hK K
        generalize w5.alloc (.cells #[.int .i64 x0, .int .i64 y1, .string x2] 24) = wa4 at *
        refine AnyG.ready (rs := [0]) (by kernel_rfl) (by simp) ?_
        refine AllG.cons rfl (fun K hK => ?_) AllG.nil
        go_simp
        have Twb0 : Blk (wa4.alloc (.cells #[] 24)) A 24 #[.int .i64 x0, .int .i64 y1, .string x2] := Twa4.alloc _
        have Bwb0 : Below w5.heap.size w5 (wa4.alloc (.cells #[] 24)) := Bwa4.alloc Bwa4.size _
        have Lwb0 := Lwa4.carry (alloc_below wa4 (.cells #[] 24))
        have Owb0 := OwE.lit wa4 w5.heap.size Bwa4.size
        have Ewb0 : ∃ g, g = wa4.heap.size := ⟨_, rfl⟩
        have Swb0 := Swa4.carry (alloc_below wa4 (.cells #[] 24))
        have Qwb0 : w5.heap.size ≠ wa4.heap.size := by have := Xwa4; omega
        refine hK.out _ _ ⟨Twb0, fun _ => trivial⟩ ?_
        clear hK K
        have Xwb0 : wa4.heap.size < (wa4.alloc (.cells #[] 24)).heap.size := by simp
        generalize wa4.alloc (.cells #[] 24) = wb0 at *
        generalize wa4.heap.size = gwb0 at *
        refine AnyG.ready (rs := [2]) (by kernel_rfl) (by simp) ?_
        refine AllG.cons rfl (fun K hK => ?_) AllG.nil
        refine step_ens rfl _ _ rfl w5.heap.size _ [] L rfl Owb0 a n c HL.out rfl Lwb0 (by have := HL.out; simp; omega) Bwb0.size ?_
        intro vwc2 wc2 Owc2 gwc2
        have Bwc2 := Owb0.below Bwb0 Bwb0.size gwc2
        have Twc2 : Blk wc2 A 24 #[.int .i64 x0, .int .i64 y1, .string x2] := M5.out.kept (Kept.of_below Bwc2 (fun _ => False)) id
        have Swc2 : SlE wc2 (some ⟨w5.heap.size, 0, none⟩) 1 [(⟨x0, y1, x2⟩ : En)] := ⟨Swb0.1, Swb0.2.1, Swb0.2.2.keep (Kept.of_grown (S := fun k => k = gwb0) gwc2 (fun k e => by injection e with e; exact e.symm)) (fun b off e => by injection e with e; injection e with e1 e2; subst e1; exact Qwb0)⟩
        have Lwc2 := H5.out wc2 Bwc2
        refine hK.out _ _ ⟨Twc2, fun _ => trivial⟩ ?_
        clear hK K
        refine AnyG.ready (rs := [5]) (by kernel_rfl) (by simp) ?_
        refine AllG.cons rfl (fun K hK => ?_) AllG.nil
        refine step_ens rfl _ _ rfl w5.heap.size _ L [(⟨x0, y1, x2⟩ : En)] rfl Owc2 (some ⟨w5.heap.size, 0, none⟩) 1 1 rfl rfl Swc2 (by have := HL.out; simp; omega) Bwc2.size ?_
        intro vwd5 wd5 Owd5 gwd5
        have Bwd5 := Owc2.below Bwc2 Bwc2.size gwd5
        have Twd5 : Blk wd5 A 24 #[.int .i64 x0, .int .i64 y1, .string x2] := M5.out.kept (Kept.of_below Bwd5 (fun _ => False)) id
        refine hK.out _ _ ⟨Twd5, fun _ => trivial⟩ ?_
        clear hK K
        refine AnyG.ready (rs := [6]) (by kernel_rfl) (by simp) ?_
        refine AllG.cons rfl (fun K hK => ?_) AllG.nil
        go_simp
        refine hK.out _ _ ⟨Twd5, fun _ => trivial⟩ ?_
        clear hK K
        refine AnyG.ready (rs := [7]) (by kernel_rfl) (by simp) ?_
        refine AllG.cons rfl (fun K hK => ?_) AllG.nil
        go_simp
        refine hK.out _ _ ⟨Twd5, fun _ => trivial⟩ ?_
        clear hK K
        refine AnyG.done (by kernel_rfl) ?_ _
        have R : Hd (OwE wd5 w5.heap.size vwd5 (L ++ [(⟨x0, y1, x2⟩ : En)]) ∧ Below w5.heap.size w5 wd5) := ⟨Owd5, Bwd5⟩
        go_wp2_with fail
        go_ret2
        exact ⟨⟨_, by rw [E.out.1]; rfl, by rw [E.out.2]; exact R.out.1.low B5.out.size⟩, B5.out.trans (R.out.2.mono B5.out.size)⟩
  · have E : Hd (_ ∧ _) := ⟨bg_arg (L := L) ho⟩
    have K : x.id < 0 ∨ (¬ x.id < 0 ∧ 999999999 < x.id) ∨ (¬ x.id < 0 ∧ ¬ 999999999 < x.id ∧ (x.ph != 1) = true ∧ (x.ph != 2) = true ∧ (x.ph != 3) = true) := by
      unfold okE at ho
      rcases Int.lt_or_le x.id 0 with q | q
      · exact .inl q
      · rcases Int.lt_or_le 999999999 x.id with q2 | q2
        · exact .inr (.inl ⟨by omega, q2⟩)
        · refine .inr (.inr ⟨by omega, by omega, ?_⟩)
          refine ⟨?_, ?_, ?_⟩ <;> (rw [bne_iff_ne]; omega)
    clear h ho N1 F hz hn
    obtain ⟨x0, x1, x2⟩ := x
    simp only at c0 c1 c2 hw1 K
    rcases K with K1 | ⟨K1, K2⟩ | ⟨K1, K2, K3, K4, K5⟩
    all_goals
      go_enter Try.func8, Try.ntmps8
      go_upto_region 1 with fail
      rw [← hw1]
      clear hw1
      go_wp2
      go_ret2
      exact ⟨⟨_, by rw [E.out.1]; rfl, by rw [E.out.2]; exact OwE.nil _ _⟩, B.out⟩
end Go.Proofs.Ytomkmgebbiahcaa
