/-
  The walk of 'PrintAll'. Conditions: the configuration lies in memory, its numbers are numbers of Go; the library's table of powers is laid.
-/
import Derived.Test.YtfollcabppkihaaDoorD17
import Derived.Test.YtfollcabppkihaaDoorD43
import Derived.Test.YtfollcabppkihaaDoorD44
import Derived.Test.YtfollcabppkihaaDoorD37
import Derived.Test.YtfollcabppkihaaDoorD19
import Derived.BigQuiet
namespace Go.Proofs.YtfollcabppkihaaDoor
open Go.RowKit

theorem Bnd.mono {m n : Nat} {C : Cf} (h : Bnd m C) (k : m ≤ n) : Bnd n C :=
  ⟨Nat.le_trans h.lv k, Nat.le_trans h.sc k, fun s hs => by
    obtain ⟨h1, h2⟩ := h.rl s hs
    exact ⟨Nat.le_trans h1 k, fun r hr => by obtain ⟨c0, c1, c2, c3, c4⟩ := h2 r hr; exact ⟨by omega, by omega, by omega, by omega, by omega⟩⟩⟩
theorem beq_self (x : ByteArray) : (x.toList == x.toList) = true := by simp

set_option maxRecDepth 20000 in
set_option maxHeartbeats 16000000 in
theorem all_ok (v : Value) (C : Cf) (w : World) (h : CfR w v C) (g : Wfc C) (hT : Tab w) : Calls Tryd.prog 3 #[v] w fun e w' => e = .returned (.bool true) ∧ Below w.heap.size w w' := by
  have HC : Hd (∀ W, Below w.heap.size w W → CfR W v C) := ⟨fun W b => h.carry b⟩
  have HW : Hd (Wfc C) := ⟨g⟩
  have HT : Hd (Tab w) := ⟨hT⟩
  have HFit : Hd (Fits C) := ⟨h.fits⟩
  obtain ⟨aL, cL, aS, cS, V, rfl, -, -, -, -, -, -⟩ := h.ex
  clear h hT g
  obtain ⟨nL, hnL⟩ : ∃ n, n = C.levels.length := ⟨_, rfl⟩
  obtain ⟨nS, hnS⟩ : ∃ n, n = C.schemas.length := ⟨_, rfl⟩
  rw [← hnL, ← hnS] at HC ⊢
  have HNN : Hd (nL = C.levels.length ∧ nS = C.schemas.length) := ⟨hnL, hnS⟩
  clear hnL hnS
  obtain ⟨x0, hx0⟩ : ∃ n, n = C.total := ⟨_, rfl⟩
  obtain ⟨x1, hx1⟩ : ∃ n, n = C.period := ⟨_, rfl⟩
  obtain ⟨x2, hx2⟩ : ∃ n, n = C.perSeat := ⟨_, rfl⟩
  obtain ⟨x3, hx3⟩ : ∃ n, n = C.most := ⟨_, rfl⟩
  rw [← hx0, ← hx1, ← hx2, ← hx3] at HC ⊢
  have HX : Hd (x0 = C.total ∧ x1 = C.period ∧ x2 = C.perSeat ∧ x3 = C.most) := ⟨hx0, hx1, hx2, hx3⟩
  clear hx0 hx1 hx2 hx3
  have B0 : Hd (Below w.heap.size w (w.alloc (.cells #[.int .i64 x0, .int .i64 x1, .int .i64 x2, .int .i64 x3, .slice aL nL cL, .slice aS nS cS] 25))) := ⟨alloc_below w _⟩
  have F0 : Hd (Blk (w.alloc (.cells #[.int .i64 x0, .int .i64 x1, .int .i64 x2, .int .i64 x3, .slice aL nL cL, .slice aS nS cS] 25)) w.heap.size 25 #[.int .i64 x0, .int .i64 x1, .int .i64 x2, .int .i64 x3, .slice aL nL cL, .slice aS nS cS]) := ⟨Blk.new w 25 _⟩
  go_enter Tryd.func3, Tryd.ntmps3
  go_wp2_with fail
  generalize w.alloc _ = w0 at *
  go_at_call 5
  refine (awake_any w0 (HT.out.stays B0.out)).mono ?_
  rintro e w1 ⟨rfl, b1⟩
  have B1 : Hd (Below w.heap.size w w1) := ⟨B0.out.trans (b1.mono B0.out.size)⟩
  have F1 : Hd (Blk w1 w.heap.size 25 _) := ⟨F0.out.kept (Kept.of_below b1 (fun _ => False)) id⟩
  clear b1 B0 F0
  obtain ⟨⟨l0, l1, l2, l3, l4, l5⟩, -⟩ := F1.out.six
  go_wp2_with fail
  go_at_call 6
  refine (small_nm _ C w1 (HC.out w1 B1.out)).mono ?_
  rintro e w2 ⟨⟨b, rfl, hb⟩, b2⟩
  have B2 : Hd (Below w.heap.size w w2) := ⟨B1.out.trans (b2.mono B1.out.size)⟩
  have F2 : Hd (Blk w2 w.heap.size 25 _) := ⟨F1.out.kept (Kept.of_below b2 (fun _ => False)) id⟩
  clear l0 l1 l2 l3 l4 l5 b2 B1 F1
  obtain ⟨⟨l0, l1, l2, l3, l4, l5⟩, -⟩ := F2.out.six
  cases b with
  | false =>
    clear hb
    go_wp2_with fail
    go_ret
    exact ⟨rfl, B2.out⟩
  | true =>
    have HB : Hd (Bnd 80 C ∧ Nms C) := ⟨hb rfl⟩
    clear hb
    go_wp2_with fail
    go_at_call 7
    refine (copy_ok _ C w2 (HC.out w2 B2.out) (HB.out.1.mono (by omega))).mono ?_
    rintro e w3 ⟨⟨v3, rfl, hcw⟩, b3⟩
    have hcr := hcw.read HFit.out
    obtain ⟨bL, dL, bS, dS, V3, ev, -, -, -, -, -, -⟩ := hcr.ex
    subst ev
    rw [← HNN.out.1, ← HNN.out.2, ← HX.out.1, ← HX.out.2.1, ← HX.out.2.2.1, ← HX.out.2.2.2] at hcr ⊢
    have A4 : Below w3.heap.size w3 (w3.alloc (.cells #[.int .i64 x0, .int .i64 x1, .int .i64 x2, .int .i64 x3, .slice bL nL dL, .slice bS nS dS] 25)) := alloc_below w3 _
    have B4 : Hd (Below w.heap.size w (w3.alloc (.cells #[.int .i64 x0, .int .i64 x1, .int .i64 x2, .int .i64 x3, .slice bL nL dL, .slice bS nS dS] 25))) := ⟨(B2.out.trans (b3.mono B2.out.size)).trans (A4.mono (Nat.le_trans B2.out.size b3.size))⟩
    have M4 : Hd (Blk (w3.alloc (.cells #[.int .i64 x0, .int .i64 x1, .int .i64 x2, .int .i64 x3, .slice bL nL dL, .slice bS nS dS] 25)) w3.heap.size 25 #[.int .i64 x0, .int .i64 x1, .int .i64 x2, .int .i64 x3, .slice bL nL dL, .slice bS nS dS]) := ⟨Blk.new w3 25 _⟩
    have F4 : Hd (Blk (w3.alloc (.cells #[.int .i64 x0, .int .i64 x1, .int .i64 x2, .int .i64 x3, .slice bL nL dL, .slice bS nS dS] 25)) w.heap.size 25 #[.int .i64 x0, .int .i64 x1, .int .i64 x2, .int .i64 x3, .slice aL nL cL, .slice aS nS cS]) := ⟨(F2.out.kept (Kept.of_below b3 (fun _ => False)) id).kept (Kept.of_below A4 (fun _ => False)) id⟩
    have R4 : Hd (CfR (w3.alloc (.cells #[.int .i64 x0, .int .i64 x1, .int .i64 x2, .int .i64 x3, .slice bL nL dL, .slice bS nS dS] 25)) (.agg #[.int .i64 x0, .int .i64 x1, .int .i64 x2, .int .i64 x3, .slice bL nL dL, .slice bS nS dS]) C) := ⟨hcr.carry A4⟩
    clear l0 l1 l2 l3 l4 l5 hcw hcr b3 A4 B2 F2
    go_wp2_with fail
    generalize w3.alloc _ = w4 at *
    generalize w3.heap.size = gm at *
    go_at_call 8
    refine (print_ok _ C w4 R4.out (HT.out.stays B4.out)).mono ?_
    rintro e w5 ⟨rfl, b5⟩
    have B5 : Hd (Below w.heap.size w w5) := ⟨B4.out.trans (b5.mono B4.out.size)⟩
    have M5 : Hd (Blk w5 gm 25 _) := ⟨M4.out.kept (Kept.of_below b5 (fun _ => False)) id⟩
    have F5 : Hd (Blk w5 w.heap.size 25 _) := ⟨F4.out.kept (Kept.of_below b5 (fun _ => False)) id⟩
    have R5 : Hd (CfR w5 (.agg #[.int .i64 x0, .int .i64 x1, .int .i64 x2, .int .i64 x3, .slice bL nL dL, .slice bS nS dS]) C) := ⟨R4.out.carry b5⟩
    clear b5 B4 M4 F4 R4
    obtain ⟨⟨l0, l1, l2, l3, l4, l5⟩, -⟩ := F5.out.six
    go_wp2_with fail
    go_at_call 9
    refine (rprint_ok _ C w5 (HC.out w5 B5.out) HW.out HB.out.2 (HB.out.1.mono (by omega))).mono ?_
    rintro e w6 ⟨rfl, b6⟩
    have D6 : Below w6.heap.size w6 w6.drew := ⟨rfl, rfl, rfl, Nat.le_refl _, fun _ _ => rfl⟩
    have b56 := b6.trans (D6.mono b6.size)
    have B9 : Hd (Below w.heap.size w w6.drew) := ⟨B5.out.trans (b56.mono B5.out.size)⟩
    have NM : Hd (Blk w6.drew gm 25 #[.int .i64 x0, .int .i64 x1, .int .i64 x2, .int .i64 x3, .slice bL nL dL, .slice bS nS dS]) := ⟨M5.out.kept (Kept.of_below b56 (fun _ => False)) id⟩
    have NC : Hd (Blk w6.drew w.heap.size 25 #[.int .i64 x0, .int .i64 x1, .int .i64 x2, .int .i64 x3, .slice aL nL cL, .slice aS nS cS]) := ⟨F5.out.kept (Kept.of_below b56 (fun _ => False)) id⟩
    have FM : Hd (∀ W, Below w6.drew.heap.size w6.drew W → Calls Tryd.prog 10 #[.agg #[.int .i64 x0, .int .i64 x1, .int .i64 x2, .int .i64 x3, .slice bL nL dL, .slice bS nS dS]] W fun e w' => e = .returned (.bool (formed C)) ∧ Below W.heap.size W w') := ⟨fun W b => formed_ok _ C W ((R5.out.carry b56).carry b)⟩
    have FR : Hd (∀ W, Below w6.drew.heap.size w6.drew W → Calls Tryd.prog 11 #[.agg #[.int .i64 x0, .int .i64 x1, .int .i64 x2, .int .i64 x3, .slice aL nL cL, .slice aS nS cS]] W fun e w' => e = .returned (.bool (formed C)) ∧ Below W.heap.size W w') := ⟨fun W b => rformed_ok _ C W (HC.out W (B9.out.trans (b.mono B9.out.size))) HW.out HB.out.2 (HB.out.1.mono (by omega))⟩
    have SM : Hd (∀ W, Below w6.drew.heap.size w6.drew W → Calls Tryd.prog 12 #[.agg #[.int .i64 x0, .int .i64 x1, .int .i64 x2, .int .i64 x3, .slice bL nL dL, .slice bS nS dS], .agg #[.int .i64 x0, .int .i64 x1, .int .i64 x2, .int .i64 x3, .slice aL nL cL, .slice aS nS cS]] W fun e w' => e = .returned (.bool true) ∧ Below W.heap.size W w') := ⟨fun W b => same_cfr ((R5.out.carry b56).carry b) (HC.out W (B9.out.trans (b.mono B9.out.size)))⟩
    clear l0 l1 l2 l3 l4 l5 b6 D6 b56 B5 M5 F5 R5 HC HW HT HFit HB HNN HX
    generalize printS C = ps at *
    generalize printE C = pe at *
    generalize formed C = bb at *
    have e0 := beq_self ps
    go_upto_region 8 with fail
    refine AnyG.start (T := Below w6.drew.heap.size w6.drew) (U := fun _ => True) (j0 := 100) (by kernel_rfl) ?_
    generalize w6.drew = w9 at *
    have T0 : Below w9.heap.size w9 w9 := Below.refl _ _
    refine .tk 0 25 rfl rfl (by kernel_rfl) (fun _ _ _ h => h) ⟨T0, fun _ => trivial⟩ (by rfl) (fun w hSw => by go_simp; rfl) ?_; simp only [tkA, tkB, tkC]
    refine .tk 1 26 rfl rfl (by kernel_rfl) (fun _ _ _ h => h) ⟨T0, fun _ => trivial⟩ (by rfl) (fun w hSw => by go_simp; rfl) ?_; simp only [tkA, tkB, tkC]
    refine .tk 2 27 rfl rfl (by kernel_rfl) (fun _ _ _ h => h) ⟨T0, fun _ => trivial⟩ (by rfl) (fun w hSw => by go_simp; rfl) ?_; simp only [tkA, tkB, tkC]
    refine .tk 3 28 rfl rfl (by kernel_rfl) (fun _ _ _ h => h) ⟨T0, fun _ => trivial⟩ (by rfl) (fun w hSw => by go_simp; rfl) ?_; simp only [tkA, tkB, tkC]
    refine .tk 4 29 rfl rfl (by kernel_rfl) (fun _ _ _ h => h) ⟨T0, fun _ => trivial⟩ (by rfl) (fun w hSw => by go_simp; rfl) ?_; simp only [tkA, tkB, tkC]
    refine .tk 5 30 rfl rfl (by kernel_rfl) (fun _ _ _ h => h) ⟨T0, fun _ => trivial⟩ (by rfl) (fun w hSw => by go_simp; rfl) ?_; simp only [tkA, tkB, tkC]
    refine .tk 6 31 rfl rfl (by kernel_rfl) (fun _ _ _ h => h) ⟨T0, fun _ => trivial⟩ (by rfl) (fun w hSw => by go_simp; rfl) ?_; simp only [tkA, tkB, tkC]
    refine .tk 7 32 rfl rfl (by kernel_rfl) (fun _ _ _ h => h) ⟨T0, fun _ => trivial⟩ (by rfl) (fun w hSw => by go_simp; rfl) ?_; simp only [tkA, tkB, tkC]
    refine .tk 8 33 rfl rfl (by kernel_rfl) (fun _ _ _ h => h) ⟨T0, fun _ => trivial⟩ (by rfl) (fun w hSw => by go_simp; rfl) ?_; simp only [tkA, tkB, tkC]
    refine .tk 9 34 rfl rfl (by kernel_rfl) (fun _ _ _ h => h) ⟨T0, fun _ => trivial⟩ (by rfl) (fun w hSw => by obtain ⟨⟨c0, c1, c2, c3, c4, c5⟩, -⟩ := (NM.out.kept (Kept.of_below hSw (fun _ => False)) id).six; go_simp; rfl) ?_; simp only [tkA, tkB, tkC]
    refine .tk 11 36 rfl rfl (by kernel_rfl) (fun _ _ _ h => h) ⟨T0, fun _ => trivial⟩ (by rfl) (fun w hSw => by obtain ⟨⟨c0, c1, c2, c3, c4, c5⟩, -⟩ := (NC.out.kept (Kept.of_below hSw (fun _ => False)) id).six; go_simp; rfl) ?_; simp only [tkA, tkB, tkC]
    refine AnyG.ready (rs := [10]) (by kernel_rfl) (by simp) ?_
    refine AllG.cons rfl (fun K hK => ?_) AllG.nil
    go_simp
    refine (FM.out _ T0).mono ?_
    rintro e wk10 ⟨rfl, bk⟩
    have T1 : Below w9.heap.size w9 wk10 := T0.trans (bk.mono T0.size)
    refine hK.out _ _ ⟨T1, fun _ => trivial⟩ ?_
    clear hK K bk T0
    have T0 := T1
    clear T1
    refine AnyG.ready (rs := [12]) (by kernel_rfl) (by simp) ?_
    refine AllG.cons rfl (fun K hK => ?_) AllG.nil
    go_simp
    refine (FR.out _ T0).mono ?_
    rintro e wk12 ⟨rfl, bk⟩
    have T1 : Below w9.heap.size w9 wk12 := T0.trans (bk.mono T0.size)
    refine hK.out _ _ ⟨T1, fun _ => trivial⟩ ?_
    clear hK K bk T0
    have T0 := T1
    clear T1
    refine .tk 13 38 rfl rfl (by kernel_rfl) (fun _ _ _ h => h) ⟨T0, fun _ => trivial⟩ (by rfl) (fun w hSw => by go_simp; rfl) ?_; simp only [tkA, tkB, tkC]
    refine .tk 14 39 rfl rfl (by kernel_rfl) (fun _ _ _ h => h) ⟨T0, fun _ => trivial⟩ (by rfl) (fun w hSw => by go_simp; rfl) ?_; simp only [tkA, tkB, tkC]
    refine .tk 15 40 rfl rfl (by kernel_rfl) (fun _ _ _ h => h) ⟨T0, fun _ => trivial⟩ (by rfl) (fun w hSw => by go_simp; rfl) ?_; simp only [tkA, tkB, tkC]
    refine .tk 16 41 rfl rfl (by kernel_rfl) (fun _ _ _ h => h) ⟨T0, fun _ => trivial⟩ (by rfl) (fun w hSw => by obtain ⟨⟨c0, c1, c2, c3, c4, c5⟩, -⟩ := (NM.out.kept (Kept.of_below hSw (fun _ => False)) id).six; go_simp; rfl) ?_; simp only [tkA, tkB, tkC]
    refine .tk 17 42 rfl rfl (by kernel_rfl) (fun _ _ _ h => h) ⟨T0, fun _ => trivial⟩ (by rfl) (fun w hSw => by obtain ⟨⟨c0, c1, c2, c3, c4, c5⟩, -⟩ := (NC.out.kept (Kept.of_below hSw (fun _ => False)) id).six; go_simp; rfl) ?_; simp only [tkA, tkB, tkC]
    refine AnyG.ready (rs := [18]) (by kernel_rfl) (by simp) ?_
    refine AllG.cons rfl (fun K hK => ?_) AllG.nil
    go_simp
    refine (SM.out _ T0).mono ?_
    rintro e wk18 ⟨rfl, bk⟩
    have T1 : Below w9.heap.size w9 wk18 := T0.trans (bk.mono T0.size)
    refine hK.out _ _ ⟨T1, fun _ => trivial⟩ ?_
    clear hK K bk T0
    have T0 := T1
    clear T1
    refine .tk 19 44 rfl rfl (by kernel_rfl) (fun _ _ _ h => h) ⟨T0, fun _ => trivial⟩ (by rfl) (fun w hSw => by go_simp; rfl) ?_; simp only [tkA, tkB, tkC]
    refine .tk 20 2 rfl rfl (by kernel_rfl) (fun _ _ _ h => h) ⟨T0, fun _ => trivial⟩ (by rfl) (fun w hSw => by go_simp; rfl) ?_; simp only [tkA, tkB, tkC]
    refine AnyG.done (by kernel_rfl) ?_ _
    have BF : Hd (Below w.heap.size w wk18) := ⟨B9.out.trans (T0.mono B9.out.size)⟩
    clear T0 NC NM FM FR SM e0
    go_wp2_with fail
    go_ret
    exact ⟨rfl, BF.out⟩
end Go.Proofs.YtfollcabppkihaaDoor
