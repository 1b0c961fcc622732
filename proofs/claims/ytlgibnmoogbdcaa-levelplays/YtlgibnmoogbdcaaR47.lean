/-
  Step by step the level is the document's: the walk.
-/
import Derived.Test.YtlgibnmoogbdcaaR46
namespace Go.Proofs.Ytlgibnmoogbdcaa
open Go.RowKit
set_option maxRecDepth 20000 in
set_option maxHeartbeats 4000000 in
theorem plays_law (l:Lv) (H:Nat→Oq) (a:Option Addr) (n c:Nat) (w:World) (hn:OqR w a n H) (hb:n≤9223372036854775807) :
  Calls Try.prog 3 #[.agg #[.string l.name,.int .i64 l.kind,.int .i64 l.shares,.int .i64 l.lend,.int .i64 l.borrow,.int .i64 l.queues,.int .i64 l.hand,.int .i64 l.length,.int .i64 l.wait,.int .i64 l.guess],.slice a n c] w fun e w'=>e=.returned (.bool true)∧Below w.heap.size w w':=by
 obtain ⟨w1,hw1⟩:∃ w1,w1=w.alloc (.cells #[.string l.name,.int .i64 l.kind,.int .i64 l.shares,.int .i64 l.lend,.int .i64 l.borrow,.int .i64 l.queues,.int .i64 l.hand,.int .i64 l.length,.int .i64 l.wait,.int .i64 l.guess] 23):=⟨_,rfl⟩
 have B1:Below w.heap.size w w1:=by rw [hw1];exact alloc_below _ _
 have N1:Blk w1 w.heap.size 23 (lvA l):=by rw [hw1];exact Blk.new _ _ _
 have AW:=awake_ok w1
 have HW:=Hd.mk (And.intro B1 (And.intro N1 hn))
 clear B1 N1 hn
 go_enter Try.func3,Try.ntmps3
 go_upto_region 1 with fail
 rw [←hw1]
 clear hw1
 go_wp2_with fail
 go_at_call 6
 refine AW.mono ?_
 rintro e w2 ⟨rfl,b2⟩
 clear AW
 have HW2:=Hd.mk (And.intro b2 (HW.out.2.1.kept (Kept.of_below b2 (fun _=>False)) id))
 clear b2
 have CO:Hd (∀ Y q r v u y,P3 w2 (fun _=>False) (opS l) (opS l) [] q r v u y Y→Calls Try.prog 7 #[.agg #[.string l.name,.int .i64 l.kind,.int .i64 l.shares,.int .i64 l.lend,.int .i64 l.borrow,.int .i64 l.queues,.int .i64 l.hand,.int .i64 l.length,.int .i64 l.wait,.int .i64 l.guess]] Y fun e w'=>(∃ x,e=.returned (.agg (vwA (opS l) x))∧VwR (T2 (fun _=>False) q r) w' (opS l) x)∧Below Y.heap.size Y w'):=⟨fun Y q r v u y P=>(open_st l Y _ P.lt).mono (by
  rintro e w' ⟨⟨v,rfl,V⟩,b⟩
  obtain ⟨x,rfl,X⟩:=V.vw
  exact ⟨⟨x,rfl,X⟩,b⟩)⟩
 have CR:Hd (∀ Y q r v u y,P3 w2 (fun _=>False) (opS l) (opS l) [] q r v u y Y→Calls Try.prog 8 #[.agg #[.string l.name,.int .i64 l.kind,.int .i64 l.shares,.int .i64 l.lend,.int .i64 l.borrow,.int .i64 l.queues,.int .i64 l.hand,.int .i64 l.length,.int .i64 l.wait,.int .i64 l.guess]] Y fun e w'=>(∃ x,e=.returned (.agg (vwA (opS l) x))∧VwR (T2 (fun _=>False) q r) w' (opS l) x)∧Below Y.heap.size Y w'):=⟨fun Y q r v u y P=>(ropen_st l Y _ P.lt).mono (by
  rintro e w' ⟨⟨v,rfl,V⟩,b⟩
  obtain ⟨x,rfl,X⟩:=V.vw
  exact ⟨⟨x,rfl,X⟩,b⟩)⟩
 have HR0:Hd (P3 w2 (fun _=>False) (opS l) (opS l) [] none none none none none w2.drew):=⟨P3.start (Below.refl _ _).drew (fun _ e=>e.elim) (fun _ e=>by cases e)⟩
 go_upto_region 3 with fail
 go_cut [5,6] (fun s5 s6 wx=>C2 w2 (fun _=>False) (opS l) (opS l) s5 s6 wx)
 case first =>
  refine AnyG.start (T:=fun Y=>Below w2.heap.size w2 Y) (U:=fun _=>True) (j0:=100) (by kernel_rfl) ?_
  generalize w2.drew=v0 at *
  refine .tq (v:=.agg #[.string l.name,.int .i64 l.kind,.int .i64 l.shares,.int .i64 l.lend,.int .i64 l.borrow,.int .i64 l.queues,.int .i64 l.hand,.int .i64 l.length,.int .i64 l.wait,.int .i64 l.guess]) 0 16 HR0.out.bel ?_ (hy:=fun w hSw=>by obtain ⟨c0,c1,c2,c3,c4,c5,c6,c7,c8,c9⟩:=(HW2.out.2.kept (Kept.of_below hSw (fun _=>False)) id).lv;go_simp);simp only [oqA,oqB,oqC]
  refine .tq (v:=.agg #[.string l.name,.int .i64 l.kind,.int .i64 l.shares,.int .i64 l.lend,.int .i64 l.borrow,.int .i64 l.queues,.int .i64 l.hand,.int .i64 l.length,.int .i64 l.wait,.int .i64 l.guess]) 2 18 HR0.out.bel ?_ (hy:=fun w hSw=>by obtain ⟨c0,c1,c2,c3,c4,c5,c6,c7,c8,c9⟩:=(HW2.out.2.kept (Kept.of_below hSw (fun _=>False)) id).lv;go_simp);simp only [oqA,oqB,oqC]
  refine AnyG.ready (rs:=[1,4,5]) (by kernel_rfl) (by simp) ?_
  refine AllG.cons rfl (fun K hK=>?_) (AllG.cons rfl (fun K hK=>?_) (AllG.cons rfl (fun K hK=>?_) (AllG.nil)))
  ·skip
   go_simp
   refine (CO.out _ _ _ _ _ _ HR0.out).mono ?_
   rintro e v1 ⟨⟨xa,rfl,X1⟩,b1⟩
   have R1:=HR0.out.one b1 X1
   refine hK.out _ _ ⟨R1.bel,fun _=>trivial⟩ ?_
   clear hK K b1 X1 HR0
   have HR1:=Hd.mk R1
   clear R1
   refine AnyG.ready (rs:=[3,4,5]) (by kernel_rfl) (by simp) ?_
   refine AllG.cons rfl (fun K hK=>?_) (AllG.cons rfl (fun K hK=>?_) (AllG.cons rfl (fun K hK=>?_) (AllG.nil)))
   ·skip
    go_simp
    refine (CR.out _ _ _ _ _ _ HR1.out).mono ?_
    rintro e v2 ⟨⟨xb,rfl,X2⟩,b2⟩
    have R2:=HR1.out.two b2 X2
    refine hK.out _ _ ⟨R2.bel,fun _=>trivial⟩ ?_
    clear hK K b2 X2 HR1
    have HR2:=Hd.mk R2
    clear R2
    refine AnyG.ready (rs:=[4,5]) (by kernel_rfl) (by simp) ?_
    refine AllG.cons rfl (fun K hK=>?_) (AllG.cons rfl (fun K hK=>?_) (AllG.nil))
    ·skip
     go_simp
     have R3:=HR2.out.al1
     refine hK.out _ _ ⟨R3.bel,fun _=>trivial⟩ ?_
     clear hK K
     obtain ⟨q1,hq1⟩:∃ q,q=v2.heap.size:=⟨_,rfl⟩
     rw [←hq1] at R3 ⊢
     have HR3:=Hd.mk R3
     generalize v2.alloc _=v3 at *
     clear hq1 R3 HR2
     refine AnyG.ready (rs:=[5]) (by kernel_rfl) (by simp) ?_
     refine AllG.cons rfl (fun K hK=>?_) (AllG.nil)
     go_simp
     have R4:=HR3.out.al2
     refine hK.out _ _ ⟨R4.bel,fun _=>trivial⟩ ?_
     clear hK K
     obtain ⟨q2,hq2⟩:∃ q,q=v3.heap.size:=⟨_,rfl⟩
     rw [←hq2] at R4 ⊢
     have HR4:=Hd.mk R4
     generalize v3.alloc _=v4 at *
     clear hq2 R4 HR3
     refine AnyG.ready (rs:=[6]) (by kernel_rfl) (by simp) ?_
     refine AllG.cons rfl (fun K hK=>?_) (AllG.nil)
     refine step_storeSt rfl _ _ rfl q1 rfl (vwA (opS l) xa) _ rfl (HR4.out.bq q1 rfl).1 rfl rfl (vw_one _ _) ?_
     intro v5 n5 k5
     obtain ⟨B5,Z5,PUT⟩:=HR4.out.put2 n5 k5
     refine hK.out _ _ ⟨B5,fun _=>trivial⟩ ?_
     clear hK K n5 k5 B5 HR4
     refine AnyG.ready (rs:=[7]) (by kernel_rfl) (by simp) ?_
     refine AllG.cons rfl (fun K hK=>?_) (AllG.nil)
     refine step_storeSt rfl _ _ rfl q2 rfl (vwA (opS l) xb) _ rfl Z5 rfl rfl (vw_one _ _) ?_
     intro v6 n6 k6
     have F6:=PUT v6 n6 k6
     refine hK.out _ _ ⟨F6.1,fun _=>trivial⟩ ?_
     clear hK K n6 k6 PUT Z5
     have HF:=Hd.mk F6
     clear F6
     refine AnyG.done (by kernel_rfl) ?_ _
     go_wp2_with fail
     go_meet
     exact ⟨q1,q2,rfl,rfl,HF.out⟩
    ·skip
     go_simp
     have R3:=HR2.out.al2
     refine hK.out _ _ ⟨R3.bel,fun _=>trivial⟩ ?_
     clear hK K
     obtain ⟨q2,hq2⟩:∃ q,q=v2.heap.size:=⟨_,rfl⟩
     rw [←hq2] at R3 ⊢
     have HR3:=Hd.mk R3
     generalize v2.alloc _=v3 at *
     clear hq2 R3 HR2
     refine AnyG.ready (rs:=[4]) (by kernel_rfl) (by simp) ?_
     refine AllG.cons rfl (fun K hK=>?_) (AllG.nil)
     go_simp
     have R4:=HR3.out.al1
     refine hK.out _ _ ⟨R4.bel,fun _=>trivial⟩ ?_
     clear hK K
     obtain ⟨q1,hq1⟩:∃ q,q=v3.heap.size:=⟨_,rfl⟩
     rw [←hq1] at R4 ⊢
     have HR4:=Hd.mk R4
     generalize v3.alloc _=v4 at *
     clear hq1 R4 HR3
     refine AnyG.ready (rs:=[6]) (by kernel_rfl) (by simp) ?_
     refine AllG.cons rfl (fun K hK=>?_) (AllG.nil)
     refine step_storeSt rfl _ _ rfl q1 rfl (vwA (opS l) xa) _ rfl (HR4.out.bq q1 rfl).1 rfl rfl (vw_one _ _) ?_
     intro v5 n5 k5
     obtain ⟨B5,Z5,PUT⟩:=HR4.out.put2 n5 k5
     refine hK.out _ _ ⟨B5,fun _=>trivial⟩ ?_
     clear hK K n5 k5 B5 HR4
     refine AnyG.ready (rs:=[7]) (by kernel_rfl) (by simp) ?_
     refine AllG.cons rfl (fun K hK=>?_) (AllG.nil)
     refine step_storeSt rfl _ _ rfl q2 rfl (vwA (opS l) xb) _ rfl Z5 rfl rfl (vw_one _ _) ?_
     intro v6 n6 k6
     have F6:=PUT v6 n6 k6
     refine hK.out _ _ ⟨F6.1,fun _=>trivial⟩ ?_
     clear hK K n6 k6 PUT Z5
     have HF:=Hd.mk F6
     clear F6
     refine AnyG.done (by kernel_rfl) ?_ _
     go_wp2_with fail
     go_meet
     exact ⟨q1,q2,rfl,rfl,HF.out⟩
   ·skip
    go_simp
    have R2:=HR1.out.al1
    refine hK.out _ _ ⟨R2.bel,fun _=>trivial⟩ ?_
    clear hK K
    obtain ⟨q1,hq1⟩:∃ q,q=v1.heap.size:=⟨_,rfl⟩
    rw [←hq1] at R2 ⊢
    have HR2:=Hd.mk R2
    generalize v1.alloc _=v2 at *
    clear hq1 R2 HR1
    refine AnyG.ready (rs:=[3,5]) (by kernel_rfl) (by simp) ?_
    refine AllG.cons rfl (fun K hK=>?_) (AllG.cons rfl (fun K hK=>?_) (AllG.nil))
    ·skip
     go_simp
     refine (CR.out _ _ _ _ _ _ HR2.out).mono ?_
     rintro e v3 ⟨⟨xb,rfl,X3⟩,b3⟩
     have R3:=HR2.out.two b3 X3
     refine hK.out _ _ ⟨R3.bel,fun _=>trivial⟩ ?_
     clear hK K b3 X3 HR2
     have HR3:=Hd.mk R3
     clear R3
     refine AnyG.ready (rs:=[5]) (by kernel_rfl) (by simp) ?_
     refine AllG.cons rfl (fun K hK=>?_) (AllG.nil)
     go_simp
     have R4:=HR3.out.al2
     refine hK.out _ _ ⟨R4.bel,fun _=>trivial⟩ ?_
     clear hK K
     obtain ⟨q2,hq2⟩:∃ q,q=v3.heap.size:=⟨_,rfl⟩
     rw [←hq2] at R4 ⊢
     have HR4:=Hd.mk R4
     generalize v3.alloc _=v4 at *
     clear hq2 R4 HR3
     refine AnyG.ready (rs:=[6]) (by kernel_rfl) (by simp) ?_
     refine AllG.cons rfl (fun K hK=>?_) (AllG.nil)
     refine step_storeSt rfl _ _ rfl q1 rfl (vwA (opS l) xa) _ rfl (HR4.out.bq q1 rfl).1 rfl rfl (vw_one _ _) ?_
     intro v5 n5 k5
     obtain ⟨B5,Z5,PUT⟩:=HR4.out.put2 n5 k5
     refine hK.out _ _ ⟨B5,fun _=>trivial⟩ ?_
     clear hK K n5 k5 B5 HR4
     refine AnyG.ready (rs:=[7]) (by kernel_rfl) (by simp) ?_
     refine AllG.cons rfl (fun K hK=>?_) (AllG.nil)
     refine step_storeSt rfl _ _ rfl q2 rfl (vwA (opS l) xb) _ rfl Z5 rfl rfl (vw_one _ _) ?_
     intro v6 n6 k6
     have F6:=PUT v6 n6 k6
     refine hK.out _ _ ⟨F6.1,fun _=>trivial⟩ ?_
     clear hK K n6 k6 PUT Z5
     have HF:=Hd.mk F6
     clear F6
     refine AnyG.done (by kernel_rfl) ?_ _
     go_wp2_with fail
     go_meet
     exact ⟨q1,q2,rfl,rfl,HF.out⟩
    ·skip
     go_simp
     have R3:=HR2.out.al2
     refine hK.out _ _ ⟨R3.bel,fun _=>trivial⟩ ?_
     clear hK K
     obtain ⟨q2,hq2⟩:∃ q,q=v2.heap.size:=⟨_,rfl⟩
     rw [←hq2] at R3 ⊢
     have HR3:=Hd.mk R3
     generalize v2.alloc _=v3 at *
     clear hq2 R3 HR2
     refine AnyG.ready (rs:=[3]) (by kernel_rfl) (by simp) ?_
     refine AllG.cons rfl (fun K hK=>?_) (AllG.nil)
     go_simp
     refine (CR.out _ _ _ _ _ _ HR3.out).mono ?_
     rintro e v4 ⟨⟨xb,rfl,X4⟩,b4⟩
     have R4:=HR3.out.two b4 X4
     refine hK.out _ _ ⟨R4.bel,fun _=>trivial⟩ ?_
     clear hK K b4 X4 HR3
     have HR4:=Hd.mk R4
     clear R4
     refine AnyG.ready (rs:=[6]) (by kernel_rfl) (by simp) ?_
     refine AllG.cons rfl (fun K hK=>?_) (AllG.nil)
     refine step_storeSt rfl _ _ rfl q1 rfl (vwA (opS l) xa) _ rfl (HR4.out.bq q1 rfl).1 rfl rfl (vw_one _ _) ?_
     intro v5 n5 k5
     obtain ⟨B5,Z5,PUT⟩:=HR4.out.put2 n5 k5
     refine hK.out _ _ ⟨B5,fun _=>trivial⟩ ?_
     clear hK K n5 k5 B5 HR4
     refine AnyG.ready (rs:=[7]) (by kernel_rfl) (by simp) ?_
     refine AllG.cons rfl (fun K hK=>?_) (AllG.nil)
     refine step_storeSt rfl _ _ rfl q2 rfl (vwA (opS l) xb) _ rfl Z5 rfl rfl (vw_one _ _) ?_
     intro v6 n6 k6
     have F6:=PUT v6 n6 k6
     refine hK.out _ _ ⟨F6.1,fun _=>trivial⟩ ?_
     clear hK K n6 k6 PUT Z5
     have HF:=Hd.mk F6
     clear F6
     refine AnyG.done (by kernel_rfl) ?_ _
     go_wp2_with fail
     go_meet
     exact ⟨q1,q2,rfl,rfl,HF.out⟩
   ·skip
    go_simp
    have R2:=HR1.out.al2
    refine hK.out _ _ ⟨R2.bel,fun _=>trivial⟩ ?_
    clear hK K
    obtain ⟨q2,hq2⟩:∃ q,q=v1.heap.size:=⟨_,rfl⟩
    rw [←hq2] at R2 ⊢
    have HR2:=Hd.mk R2
    generalize v1.alloc _=v2 at *
    clear hq2 R2 HR1
    refine AnyG.ready (rs:=[3,4]) (by kernel_rfl) (by simp) ?_
    refine AllG.cons rfl (fun K hK=>?_) (AllG.cons rfl (fun K hK=>?_) (AllG.nil))
    ·skip
     go_simp
     refine (CR.out _ _ _ _ _ _ HR2.out).mono ?_
     rintro e v3 ⟨⟨xb,rfl,X3⟩,b3⟩
     have R3:=HR2.out.two b3 X3
     refine hK.out _ _ ⟨R3.bel,fun _=>trivial⟩ ?_
     clear hK K b3 X3 HR2
     have HR3:=Hd.mk R3
     clear R3
     refine AnyG.ready (rs:=[4]) (by kernel_rfl) (by simp) ?_
     refine AllG.cons rfl (fun K hK=>?_) (AllG.nil)
     go_simp
     have R4:=HR3.out.al1
     refine hK.out _ _ ⟨R4.bel,fun _=>trivial⟩ ?_
     clear hK K
     obtain ⟨q1,hq1⟩:∃ q,q=v3.heap.size:=⟨_,rfl⟩
     rw [←hq1] at R4 ⊢
     have HR4:=Hd.mk R4
     generalize v3.alloc _=v4 at *
     clear hq1 R4 HR3
     refine AnyG.ready (rs:=[6]) (by kernel_rfl) (by simp) ?_
     refine AllG.cons rfl (fun K hK=>?_) (AllG.nil)
     refine step_storeSt rfl _ _ rfl q1 rfl (vwA (opS l) xa) _ rfl (HR4.out.bq q1 rfl).1 rfl rfl (vw_one _ _) ?_
     intro v5 n5 k5
     obtain ⟨B5,Z5,PUT⟩:=HR4.out.put2 n5 k5
     refine hK.out _ _ ⟨B5,fun _=>trivial⟩ ?_
     clear hK K n5 k5 B5 HR4
     refine AnyG.ready (rs:=[7]) (by kernel_rfl) (by simp) ?_
     refine AllG.cons rfl (fun K hK=>?_) (AllG.nil)
     refine step_storeSt rfl _ _ rfl q2 rfl (vwA (opS l) xb) _ rfl Z5 rfl rfl (vw_one _ _) ?_
     intro v6 n6 k6
     have F6:=PUT v6 n6 k6
     refine hK.out _ _ ⟨F6.1,fun _=>trivial⟩ ?_
     clear hK K n6 k6 PUT Z5
     have HF:=Hd.mk F6
     clear F6
     refine AnyG.done (by kernel_rfl) ?_ _
     go_wp2_with fail
     go_meet
     exact ⟨q1,q2,rfl,rfl,HF.out⟩
    ·skip
     go_simp
     have R3:=HR2.out.al1
     refine hK.out _ _ ⟨R3.bel,fun _=>trivial⟩ ?_
     clear hK K
     obtain ⟨q1,hq1⟩:∃ q,q=v2.heap.size:=⟨_,rfl⟩
     rw [←hq1] at R3 ⊢
     have HR3:=Hd.mk R3
     generalize v2.alloc _=v3 at *
     clear hq1 R3 HR2
     refine AnyG.ready (rs:=[3]) (by kernel_rfl) (by simp) ?_
     refine AllG.cons rfl (fun K hK=>?_) (AllG.nil)
     go_simp
     refine (CR.out _ _ _ _ _ _ HR3.out).mono ?_
     rintro e v4 ⟨⟨xb,rfl,X4⟩,b4⟩
     have R4:=HR3.out.two b4 X4
     refine hK.out _ _ ⟨R4.bel,fun _=>trivial⟩ ?_
     clear hK K b4 X4 HR3
     have HR4:=Hd.mk R4
     clear R4
     refine AnyG.ready (rs:=[6]) (by kernel_rfl) (by simp) ?_
     refine AllG.cons rfl (fun K hK=>?_) (AllG.nil)
     refine step_storeSt rfl _ _ rfl q1 rfl (vwA (opS l) xa) _ rfl (HR4.out.bq q1 rfl).1 rfl rfl (vw_one _ _) ?_
     intro v5 n5 k5
     obtain ⟨B5,Z5,PUT⟩:=HR4.out.put2 n5 k5
     refine hK.out _ _ ⟨B5,fun _=>trivial⟩ ?_
     clear hK K n5 k5 B5 HR4
     refine AnyG.ready (rs:=[7]) (by kernel_rfl) (by simp) ?_
     refine AllG.cons rfl (fun K hK=>?_) (AllG.nil)
     refine step_storeSt rfl _ _ rfl q2 rfl (vwA (opS l) xb) _ rfl Z5 rfl rfl (vw_one _ _) ?_
     intro v6 n6 k6
     have F6:=PUT v6 n6 k6
     refine hK.out _ _ ⟨F6.1,fun _=>trivial⟩ ?_
     clear hK K n6 k6 PUT Z5
     have HF:=Hd.mk F6
     clear F6
     refine AnyG.done (by kernel_rfl) ?_ _
     go_wp2_with fail
     go_meet
     exact ⟨q1,q2,rfl,rfl,HF.out⟩
  ·skip
   go_simp
   have R1:=HR0.out.al1
   refine hK.out _ _ ⟨R1.bel,fun _=>trivial⟩ ?_
   clear hK K
   obtain ⟨q1,hq1⟩:∃ q,q=v0.heap.size:=⟨_,rfl⟩
   rw [←hq1] at R1 ⊢
   have HR1:=Hd.mk R1
   generalize v0.alloc _=v1 at *
   clear hq1 R1 HR0
   refine AnyG.ready (rs:=[1,5]) (by kernel_rfl) (by simp) ?_
   refine AllG.cons rfl (fun K hK=>?_) (AllG.cons rfl (fun K hK=>?_) (AllG.nil))
   ·skip
    go_simp
    refine (CO.out _ _ _ _ _ _ HR1.out).mono ?_
    rintro e v2 ⟨⟨xa,rfl,X2⟩,b2⟩
    have R2:=HR1.out.one b2 X2
    refine hK.out _ _ ⟨R2.bel,fun _=>trivial⟩ ?_
    clear hK K b2 X2 HR1
    have HR2:=Hd.mk R2
    clear R2
    refine AnyG.ready (rs:=[3,5]) (by kernel_rfl) (by simp) ?_
    refine AllG.cons rfl (fun K hK=>?_) (AllG.cons rfl (fun K hK=>?_) (AllG.nil))
    ·skip
     go_simp
     refine (CR.out _ _ _ _ _ _ HR2.out).mono ?_
     rintro e v3 ⟨⟨xb,rfl,X3⟩,b3⟩
     have R3:=HR2.out.two b3 X3
     refine hK.out _ _ ⟨R3.bel,fun _=>trivial⟩ ?_
     clear hK K b3 X3 HR2
     have HR3:=Hd.mk R3
     clear R3
     refine AnyG.ready (rs:=[5]) (by kernel_rfl) (by simp) ?_
     refine AllG.cons rfl (fun K hK=>?_) (AllG.nil)
     go_simp
     have R4:=HR3.out.al2
     refine hK.out _ _ ⟨R4.bel,fun _=>trivial⟩ ?_
     clear hK K
     obtain ⟨q2,hq2⟩:∃ q,q=v3.heap.size:=⟨_,rfl⟩
     rw [←hq2] at R4 ⊢
     have HR4:=Hd.mk R4
     generalize v3.alloc _=v4 at *
     clear hq2 R4 HR3
     refine AnyG.ready (rs:=[6]) (by kernel_rfl) (by simp) ?_
     refine AllG.cons rfl (fun K hK=>?_) (AllG.nil)
     refine step_storeSt rfl _ _ rfl q1 rfl (vwA (opS l) xa) _ rfl (HR4.out.bq q1 rfl).1 rfl rfl (vw_one _ _) ?_
     intro v5 n5 k5
     obtain ⟨B5,Z5,PUT⟩:=HR4.out.put2 n5 k5
     refine hK.out _ _ ⟨B5,fun _=>trivial⟩ ?_
     clear hK K n5 k5 B5 HR4
     refine AnyG.ready (rs:=[7]) (by kernel_rfl) (by simp) ?_
     refine AllG.cons rfl (fun K hK=>?_) (AllG.nil)
     refine step_storeSt rfl _ _ rfl q2 rfl (vwA (opS l) xb) _ rfl Z5 rfl rfl (vw_one _ _) ?_
     intro v6 n6 k6
     have F6:=PUT v6 n6 k6
     refine hK.out _ _ ⟨F6.1,fun _=>trivial⟩ ?_
     clear hK K n6 k6 PUT Z5
     have HF:=Hd.mk F6
     clear F6
     refine AnyG.done (by kernel_rfl) ?_ _
     go_wp2_with fail
     go_meet
     exact ⟨q1,q2,rfl,rfl,HF.out⟩
    ·skip
     go_simp
     have R3:=HR2.out.al2
     refine hK.out _ _ ⟨R3.bel,fun _=>trivial⟩ ?_
     clear hK K
     obtain ⟨q2,hq2⟩:∃ q,q=v2.heap.size:=⟨_,rfl⟩
     rw [←hq2] at R3 ⊢
     have HR3:=Hd.mk R3
     generalize v2.alloc _=v3 at *
     clear hq2 R3 HR2
     refine AnyG.ready (rs:=[3]) (by kernel_rfl) (by simp) ?_
     refine AllG.cons rfl (fun K hK=>?_) (AllG.nil)
     go_simp
     refine (CR.out _ _ _ _ _ _ HR3.out).mono ?_
     rintro e v4 ⟨⟨xb,rfl,X4⟩,b4⟩
     have R4:=HR3.out.two b4 X4
     refine hK.out _ _ ⟨R4.bel,fun _=>trivial⟩ ?_
     clear hK K b4 X4 HR3
     have HR4:=Hd.mk R4
     clear R4
     refine AnyG.ready (rs:=[6]) (by kernel_rfl) (by simp) ?_
     refine AllG.cons rfl (fun K hK=>?_) (AllG.nil)
     refine step_storeSt rfl _ _ rfl q1 rfl (vwA (opS l) xa) _ rfl (HR4.out.bq q1 rfl).1 rfl rfl (vw_one _ _) ?_
     intro v5 n5 k5
     obtain ⟨B5,Z5,PUT⟩:=HR4.out.put2 n5 k5
     refine hK.out _ _ ⟨B5,fun _=>trivial⟩ ?_
     clear hK K n5 k5 B5 HR4
     refine AnyG.ready (rs:=[7]) (by kernel_rfl) (by simp) ?_
     refine AllG.cons rfl (fun K hK=>?_) (AllG.nil)
     refine step_storeSt rfl _ _ rfl q2 rfl (vwA (opS l) xb) _ rfl Z5 rfl rfl (vw_one _ _) ?_
     intro v6 n6 k6
     have F6:=PUT v6 n6 k6
     refine hK.out _ _ ⟨F6.1,fun _=>trivial⟩ ?_
     clear hK K n6 k6 PUT Z5
     have HF:=Hd.mk F6
     clear F6
     refine AnyG.done (by kernel_rfl) ?_ _
     go_wp2_with fail
     go_meet
     exact ⟨q1,q2,rfl,rfl,HF.out⟩
   ·skip
    go_simp
    have R2:=HR1.out.al2
    refine hK.out _ _ ⟨R2.bel,fun _=>trivial⟩ ?_
    clear hK K
    obtain ⟨q2,hq2⟩:∃ q,q=v1.heap.size:=⟨_,rfl⟩
    rw [←hq2] at R2 ⊢
    have HR2:=Hd.mk R2
    generalize v1.alloc _=v2 at *
    clear hq2 R2 HR1
    refine AnyG.ready (rs:=[1]) (by kernel_rfl) (by simp) ?_
    refine AllG.cons rfl (fun K hK=>?_) (AllG.nil)
    go_simp
    refine (CO.out _ _ _ _ _ _ HR2.out).mono ?_
    rintro e v3 ⟨⟨xa,rfl,X3⟩,b3⟩
    have R3:=HR2.out.one b3 X3
    refine hK.out _ _ ⟨R3.bel,fun _=>trivial⟩ ?_
    clear hK K b3 X3 HR2
    have HR3:=Hd.mk R3
    clear R3
    refine AnyG.ready (rs:=[3]) (by kernel_rfl) (by simp) ?_
    refine AllG.cons rfl (fun K hK=>?_) (AllG.nil)
    go_simp
    refine (CR.out _ _ _ _ _ _ HR3.out).mono ?_
    rintro e v4 ⟨⟨xb,rfl,X4⟩,b4⟩
    have R4:=HR3.out.two b4 X4
    refine hK.out _ _ ⟨R4.bel,fun _=>trivial⟩ ?_
    clear hK K b4 X4 HR3
    have HR4:=Hd.mk R4
    clear R4
    refine AnyG.ready (rs:=[6]) (by kernel_rfl) (by simp) ?_
    refine AllG.cons rfl (fun K hK=>?_) (AllG.nil)
    refine step_storeSt rfl _ _ rfl q1 rfl (vwA (opS l) xa) _ rfl (HR4.out.bq q1 rfl).1 rfl rfl (vw_one _ _) ?_
    intro v5 n5 k5
    obtain ⟨B5,Z5,PUT⟩:=HR4.out.put2 n5 k5
    refine hK.out _ _ ⟨B5,fun _=>trivial⟩ ?_
    clear hK K n5 k5 B5 HR4
    refine AnyG.ready (rs:=[7]) (by kernel_rfl) (by simp) ?_
    refine AllG.cons rfl (fun K hK=>?_) (AllG.nil)
    refine step_storeSt rfl _ _ rfl q2 rfl (vwA (opS l) xb) _ rfl Z5 rfl rfl (vw_one _ _) ?_
    intro v6 n6 k6
    have F6:=PUT v6 n6 k6
    refine hK.out _ _ ⟨F6.1,fun _=>trivial⟩ ?_
    clear hK K n6 k6 PUT Z5
    have HF:=Hd.mk F6
    clear F6
    refine AnyG.done (by kernel_rfl) ?_ _
    go_wp2_with fail
    go_meet
    exact ⟨q1,q2,rfl,rfl,HF.out⟩
  ·skip
   go_simp
   have R1:=HR0.out.al2
   refine hK.out _ _ ⟨R1.bel,fun _=>trivial⟩ ?_
   clear hK K
   obtain ⟨q2,hq2⟩:∃ q,q=v0.heap.size:=⟨_,rfl⟩
   rw [←hq2] at R1 ⊢
   have HR1:=Hd.mk R1
   generalize v0.alloc _=v1 at *
   clear hq2 R1 HR0
   refine AnyG.ready (rs:=[1,4]) (by kernel_rfl) (by simp) ?_
   refine AllG.cons rfl (fun K hK=>?_) (AllG.cons rfl (fun K hK=>?_) (AllG.nil))
   ·skip
    go_simp
    refine (CO.out _ _ _ _ _ _ HR1.out).mono ?_
    rintro e v2 ⟨⟨xa,rfl,X2⟩,b2⟩
    have R2:=HR1.out.one b2 X2
    refine hK.out _ _ ⟨R2.bel,fun _=>trivial⟩ ?_
    clear hK K b2 X2 HR1
    have HR2:=Hd.mk R2
    clear R2
    refine AnyG.ready (rs:=[3,4]) (by kernel_rfl) (by simp) ?_
    refine AllG.cons rfl (fun K hK=>?_) (AllG.cons rfl (fun K hK=>?_) (AllG.nil))
    ·skip
     go_simp
     refine (CR.out _ _ _ _ _ _ HR2.out).mono ?_
     rintro e v3 ⟨⟨xb,rfl,X3⟩,b3⟩
     have R3:=HR2.out.two b3 X3
     refine hK.out _ _ ⟨R3.bel,fun _=>trivial⟩ ?_
     clear hK K b3 X3 HR2
     have HR3:=Hd.mk R3
     clear R3
     refine AnyG.ready (rs:=[4]) (by kernel_rfl) (by simp) ?_
     refine AllG.cons rfl (fun K hK=>?_) (AllG.nil)
     go_simp
     have R4:=HR3.out.al1
     refine hK.out _ _ ⟨R4.bel,fun _=>trivial⟩ ?_
     clear hK K
     obtain ⟨q1,hq1⟩:∃ q,q=v3.heap.size:=⟨_,rfl⟩
     rw [←hq1] at R4 ⊢
     have HR4:=Hd.mk R4
     generalize v3.alloc _=v4 at *
     clear hq1 R4 HR3
     refine AnyG.ready (rs:=[6]) (by kernel_rfl) (by simp) ?_
     refine AllG.cons rfl (fun K hK=>?_) (AllG.nil)
     refine step_storeSt rfl _ _ rfl q1 rfl (vwA (opS l) xa) _ rfl (HR4.out.bq q1 rfl).1 rfl rfl (vw_one _ _) ?_
     intro v5 n5 k5
     obtain ⟨B5,Z5,PUT⟩:=HR4.out.put2 n5 k5
     refine hK.out _ _ ⟨B5,fun _=>trivial⟩ ?_
     clear hK K n5 k5 B5 HR4
     refine AnyG.ready (rs:=[7]) (by kernel_rfl) (by simp) ?_
     refine AllG.cons rfl (fun K hK=>?_) (AllG.nil)
     refine step_storeSt rfl _ _ rfl q2 rfl (vwA (opS l) xb) _ rfl Z5 rfl rfl (vw_one _ _) ?_
     intro v6 n6 k6
     have F6:=PUT v6 n6 k6
     refine hK.out _ _ ⟨F6.1,fun _=>trivial⟩ ?_
     clear hK K n6 k6 PUT Z5
     have HF:=Hd.mk F6
     clear F6
     refine AnyG.done (by kernel_rfl) ?_ _
     go_wp2_with fail
     go_meet
     exact ⟨q1,q2,rfl,rfl,HF.out⟩
    ·skip
     go_simp
     have R3:=HR2.out.al1
     refine hK.out _ _ ⟨R3.bel,fun _=>trivial⟩ ?_
     clear hK K
     obtain ⟨q1,hq1⟩:∃ q,q=v2.heap.size:=⟨_,rfl⟩
     rw [←hq1] at R3 ⊢
     have HR3:=Hd.mk R3
     generalize v2.alloc _=v3 at *
     clear hq1 R3 HR2
     refine AnyG.ready (rs:=[3]) (by kernel_rfl) (by simp) ?_
     refine AllG.cons rfl (fun K hK=>?_) (AllG.nil)
     go_simp
     refine (CR.out _ _ _ _ _ _ HR3.out).mono ?_
     rintro e v4 ⟨⟨xb,rfl,X4⟩,b4⟩
     have R4:=HR3.out.two b4 X4
     refine hK.out _ _ ⟨R4.bel,fun _=>trivial⟩ ?_
     clear hK K b4 X4 HR3
     have HR4:=Hd.mk R4
     clear R4
     refine AnyG.ready (rs:=[6]) (by kernel_rfl) (by simp) ?_
     refine AllG.cons rfl (fun K hK=>?_) (AllG.nil)
     refine step_storeSt rfl _ _ rfl q1 rfl (vwA (opS l) xa) _ rfl (HR4.out.bq q1 rfl).1 rfl rfl (vw_one _ _) ?_
     intro v5 n5 k5
     obtain ⟨B5,Z5,PUT⟩:=HR4.out.put2 n5 k5
     refine hK.out _ _ ⟨B5,fun _=>trivial⟩ ?_
     clear hK K n5 k5 B5 HR4
     refine AnyG.ready (rs:=[7]) (by kernel_rfl) (by simp) ?_
     refine AllG.cons rfl (fun K hK=>?_) (AllG.nil)
     refine step_storeSt rfl _ _ rfl q2 rfl (vwA (opS l) xb) _ rfl Z5 rfl rfl (vw_one _ _) ?_
     intro v6 n6 k6
     have F6:=PUT v6 n6 k6
     refine hK.out _ _ ⟨F6.1,fun _=>trivial⟩ ?_
     clear hK K n6 k6 PUT Z5
     have HF:=Hd.mk F6
     clear F6
     refine AnyG.done (by kernel_rfl) ?_ _
     go_wp2_with fail
     go_meet
     exact ⟨q1,q2,rfl,rfl,HF.out⟩
   ·skip
    go_simp
    have R2:=HR1.out.al1
    refine hK.out _ _ ⟨R2.bel,fun _=>trivial⟩ ?_
    clear hK K
    obtain ⟨q1,hq1⟩:∃ q,q=v1.heap.size:=⟨_,rfl⟩
    rw [←hq1] at R2 ⊢
    have HR2:=Hd.mk R2
    generalize v1.alloc _=v2 at *
    clear hq1 R2 HR1
    refine AnyG.ready (rs:=[1]) (by kernel_rfl) (by simp) ?_
    refine AllG.cons rfl (fun K hK=>?_) (AllG.nil)
    go_simp
    refine (CO.out _ _ _ _ _ _ HR2.out).mono ?_
    rintro e v3 ⟨⟨xa,rfl,X3⟩,b3⟩
    have R3:=HR2.out.one b3 X3
    refine hK.out _ _ ⟨R3.bel,fun _=>trivial⟩ ?_
    clear hK K b3 X3 HR2
    have HR3:=Hd.mk R3
    clear R3
    refine AnyG.ready (rs:=[3]) (by kernel_rfl) (by simp) ?_
    refine AllG.cons rfl (fun K hK=>?_) (AllG.nil)
    go_simp
    refine (CR.out _ _ _ _ _ _ HR3.out).mono ?_
    rintro e v4 ⟨⟨xb,rfl,X4⟩,b4⟩
    have R4:=HR3.out.two b4 X4
    refine hK.out _ _ ⟨R4.bel,fun _=>trivial⟩ ?_
    clear hK K b4 X4 HR3
    have HR4:=Hd.mk R4
    clear R4
    refine AnyG.ready (rs:=[6]) (by kernel_rfl) (by simp) ?_
    refine AllG.cons rfl (fun K hK=>?_) (AllG.nil)
    refine step_storeSt rfl _ _ rfl q1 rfl (vwA (opS l) xa) _ rfl (HR4.out.bq q1 rfl).1 rfl rfl (vw_one _ _) ?_
    intro v5 n5 k5
    obtain ⟨B5,Z5,PUT⟩:=HR4.out.put2 n5 k5
    refine hK.out _ _ ⟨B5,fun _=>trivial⟩ ?_
    clear hK K n5 k5 B5 HR4
    refine AnyG.ready (rs:=[7]) (by kernel_rfl) (by simp) ?_
    refine AllG.cons rfl (fun K hK=>?_) (AllG.nil)
    refine step_storeSt rfl _ _ rfl q2 rfl (vwA (opS l) xb) _ rfl Z5 rfl rfl (vw_one _ _) ?_
    intro v6 n6 k6
    have F6:=PUT v6 n6 k6
    refine hK.out _ _ ⟨F6.1,fun _=>trivial⟩ ?_
    clear hK K n6 k6 PUT Z5
    have HF:=Hd.mk F6
    clear F6
    refine AnyG.done (by kernel_rfl) ?_ _
    go_wp2_with fail
    go_meet
    exact ⟨q1,q2,rfl,rfl,HF.out⟩
 case rest =>
  obtain ⟨g,h,rfl,rfl,b3,⟨hg1,hh1,hgh⟩,bg3,bh3⟩:=hcut
  have HI0:Hd (PlI w g h 0 (opS l) wc):=⟨by
   have h1:=HW.out.1
   have h2:=HW2.out.1
   have z1:=h1.size
   have z2:=h2.size
   have e:∀ j,j<wc.heap.size→(j=g∨j=h)→T2 (fun _=>False) (some g) (some h) j:=fun j _ e=>e.elim (fun e=>.inr (.inl (by rw [e]))) (fun e=>.inr (.inr (by rw [e])))
   exact ⟨(h1.trans (h2.mono z1)).trans (b3.mono (by omega)),⟨by omega,by omega,hgh⟩,bg3.carry (Below.refl _ _) e,bh3.carry (Below.refl _ _) e,IvL.start l⟩⟩
  clear CO CR HR0 b3 hg1 hh1 hgh bg3 bh3
  go_wp2_with fail
  go_loopw [7] (fun vi wr=>∃ (k:Nat) (s:St),k≤n∧k≤100∧vi=.int .i64 k∧Hd (PlI w g h k s wr)) (fun vi _=>n - (intOf vi).toNat)
  case atStart=>exact ⟨0,_,Nat.zero_le _,by decide,rfl,HI0⟩
  case round =>
   obtain ⟨k,s,hk,hk1,rfl,hI⟩:=hrel
   clear HI0
   by_cases hend:k<n∧k<100
   ·obtain ⟨hlt,hlt1⟩:=hend
    obtain ⟨b,off,rfl,RW,ok⟩:=(HW.out.2.2.carry hI.out.bel).row hlt
    obtain ⟨p,hp⟩:∃ p,p=stK s (H k):=⟨_,rfl⟩
    obtain ⟨xg,Pg,Vg⟩:=hI.out.bg
    obtain ⟨xh,Ph,Vh⟩:=hI.out.bh
    have hM:∀ j,(j=g∨j=h)→j<wr.heap.size:=fun j e=>e.elim (fun e=>by rw [e];exact Pg.lt) (fun e=>by rw [e];exact Ph.lt)
    have HP:Hd (IvL (k+1) p.1∧p.2.length≤1000):=by
     have hr:chF s.x.F s.x.o (H k).hf (min (H k).hn 20)=-1∨Vld s.x.F s.x.o (chF s.x.F s.x.o (H k).hf (min (H k).hn 20)):=(chF_is _ _ _ _).rng
     rw [hp]
     exact ⟨stX_iv hI.out.iv (by omega) _ hr,stX_num hI.out.iv (by omega) _ _⟩
    have HOK:=Hd.mk (And.intro RW ok)
    have HPP:=Hd.mk hp
    have HG:=Hd.mk (And.intro Pg Ph)
    have HV:=Hd.mk (And.intro Vg Vh)
    have HM:=Hd.mk hM
    have CC:Hd (∀ Y q r v u y,P3 wr (fun j=>j=g∨j=h) s s [] q r v u y Y→Calls Try.prog 9 #[.agg (vwA s xh)] Y fun e w'=>(∃ x,e=.returned (.agg (vwA s x))∧VwR (T2 (fun j=>j=g∨j=h) q r) w' s x)∧Below Y.heap.size Y w'):=⟨fun Y q r v u y P=>by
     have h2:=HV.out.2.step (Kept.of_below P.bel _) (fun _ _ e=>e)
     refine (scopyr_ok s xh.a xh.c xh.b xh.d Y (h2.1.read (Kept.refl _ _)) hI.out.iv.few (h2.2.read (Kept.refl _ _)) (by have:=hI.out.iv.run;omega)).mono ?_
     rintro e w' ⟨⟨v,u,rfl,Q⟩,b⟩
     obtain ⟨a1,c1,rfl,s1⟩:=Q.ln (S:=T2 (fun j=>j=g∨j=h) q r) P.lt
     obtain ⟨a2,c2,rfl,s2⟩:=Q.tk (S:=T2 (fun j=>j=g∨j=h) q r) P.lt
     exact ⟨⟨⟨a1,c1,a2,c2⟩,rfl,s1,s2⟩,b⟩⟩
    have HR0:Hd (P3 wr (fun j=>j=g∨j=h) s s [] none none (some xg) none none wr.drew):=⟨P3.start (Below.refl _ _).drew hM (fun x e=>by cases e;exact Vg)⟩
    have i1:(k:Int)<(n:Int):=by omega
    clear hp Pg Vg Ph Vh hM RW ok
    go_upto_region 7 with fail
    go_cut [8,9] from 20 to 68 (fun s8 s9 wx=>C2 wr (fun j=>j=g∨j=h) s s s8 s9 wx)
    case first =>
     refine AnyG.start (T:=fun Y=>Below wr.heap.size wr Y) (U:=fun _=>True) (j0:=100) (by kernel_rfl) ?_
     generalize wr.drew=v0 at *
     refine .tq (v:=.agg (vwA s xg)) 0 30 HR0.out.bel ?_ (hy:=fun w hSw=>by exact exec_loadSt _ rfl g rfl _ (HG.out.1.kept (Kept.of_below hSw (fun _=>False)) id) rfl);simp only [oqA,oqB,oqC]
     refine .tq (v:=.agg (vwA s xh)) 1 31 HR0.out.bel ?_ (hy:=fun w hSw=>by exact exec_loadSt _ rfl h rfl _ (HG.out.2.kept (Kept.of_below hSw (fun _=>False)) id) rfl);simp only [oqA,oqB,oqC]
     refine AnyG.ready (rs:=[2,3,4]) (by kernel_rfl) (by simp) ?_
     refine AllG.cons rfl (fun K hK=>?_) (AllG.cons rfl (fun K hK=>?_) (AllG.cons rfl (fun K hK=>?_) (AllG.nil)))
     ·skip
      go_simp
      refine (CC.out _ _ _ _ _ _ HR0.out).mono ?_
      rintro e v1 ⟨⟨xb,rfl,X1⟩,b1⟩
      have R1:=HR0.out.two b1 X1
      refine hK.out _ _ ⟨R1.bel,fun _=>trivial⟩ ?_
      clear hK K b1 X1 HR0
      have HR1:=Hd.mk R1
      clear R1
      refine AnyG.ready (rs:=[3,4]) (by kernel_rfl) (by simp) ?_
      refine AllG.cons rfl (fun K hK=>?_) (AllG.cons rfl (fun K hK=>?_) (AllG.nil))
      ·skip
       go_simp
       have R2:=HR1.out.al1
       refine hK.out _ _ ⟨R2.bel,fun _=>trivial⟩ ?_
       clear hK K
       obtain ⟨q1,hq1⟩:∃ q,q=v1.heap.size:=⟨_,rfl⟩
       rw [←hq1] at R2 ⊢
       have HR2:=Hd.mk R2
       generalize v1.alloc _=v2 at *
       clear hq1 R2 HR1
       refine AnyG.ready (rs:=[4]) (by kernel_rfl) (by simp) ?_
       refine AllG.cons rfl (fun K hK=>?_) (AllG.nil)
       go_simp
       have R3:=HR2.out.al2
       refine hK.out _ _ ⟨R3.bel,fun _=>trivial⟩ ?_
       clear hK K
       obtain ⟨q2,hq2⟩:∃ q,q=v2.heap.size:=⟨_,rfl⟩
       rw [←hq2] at R3 ⊢
       have HR3:=Hd.mk R3
       generalize v2.alloc _=v3 at *
       clear hq2 R3 HR2
       refine AnyG.ready (rs:=[5]) (by kernel_rfl) (by simp) ?_
       refine AllG.cons rfl (fun K hK=>?_) (AllG.nil)
       refine step_storeSt rfl _ _ rfl q1 rfl (vwA s xg) _ rfl (HR3.out.bq q1 rfl).1 rfl rfl (vw_one _ _) ?_
       intro v4 n4 k4
       obtain ⟨B4,Z4,PUT⟩:=HR3.out.put2 n4 k4
       refine hK.out _ _ ⟨B4,fun _=>trivial⟩ ?_
       clear hK K n4 k4 B4 HR3
       refine AnyG.ready (rs:=[6]) (by kernel_rfl) (by simp) ?_
       refine AllG.cons rfl (fun K hK=>?_) (AllG.nil)
       refine step_storeSt rfl _ _ rfl q2 rfl (vwA s xb) _ rfl Z4 rfl rfl (vw_one _ _) ?_
       intro v5 n5 k5
       have F5:=PUT v5 n5 k5
       refine hK.out _ _ ⟨F5.1,fun _=>trivial⟩ ?_
       clear hK K n5 k5 PUT Z4
       have HF:=Hd.mk F5
       clear F5
       refine AnyG.done (by kernel_rfl) ?_ _
       go_wp2_with fail
       go_meet
       exact ⟨q1,q2,rfl,rfl,HF.out⟩
      ·skip
       go_simp
       have R2:=HR1.out.al2
       refine hK.out _ _ ⟨R2.bel,fun _=>trivial⟩ ?_
       clear hK K
       obtain ⟨q2,hq2⟩:∃ q,q=v1.heap.size:=⟨_,rfl⟩
       rw [←hq2] at R2 ⊢
       have HR2:=Hd.mk R2
       generalize v1.alloc _=v2 at *
       clear hq2 R2 HR1
       refine AnyG.ready (rs:=[3]) (by kernel_rfl) (by simp) ?_
       refine AllG.cons rfl (fun K hK=>?_) (AllG.nil)
       go_simp
       have R3:=HR2.out.al1
       refine hK.out _ _ ⟨R3.bel,fun _=>trivial⟩ ?_
       clear hK K
       obtain ⟨q1,hq1⟩:∃ q,q=v2.heap.size:=⟨_,rfl⟩
       rw [←hq1] at R3 ⊢
       have HR3:=Hd.mk R3
       generalize v2.alloc _=v3 at *
       clear hq1 R3 HR2
       refine AnyG.ready (rs:=[5]) (by kernel_rfl) (by simp) ?_
       refine AllG.cons rfl (fun K hK=>?_) (AllG.nil)
       refine step_storeSt rfl _ _ rfl q1 rfl (vwA s xg) _ rfl (HR3.out.bq q1 rfl).1 rfl rfl (vw_one _ _) ?_
       intro v4 n4 k4
       obtain ⟨B4,Z4,PUT⟩:=HR3.out.put2 n4 k4
       refine hK.out _ _ ⟨B4,fun _=>trivial⟩ ?_
       clear hK K n4 k4 B4 HR3
       refine AnyG.ready (rs:=[6]) (by kernel_rfl) (by simp) ?_
       refine AllG.cons rfl (fun K hK=>?_) (AllG.nil)
       refine step_storeSt rfl _ _ rfl q2 rfl (vwA s xb) _ rfl Z4 rfl rfl (vw_one _ _) ?_
       intro v5 n5 k5
       have F5:=PUT v5 n5 k5
       refine hK.out _ _ ⟨F5.1,fun _=>trivial⟩ ?_
       clear hK K n5 k5 PUT Z4
       have HF:=Hd.mk F5
       clear F5
       refine AnyG.done (by kernel_rfl) ?_ _
       go_wp2_with fail
       go_meet
       exact ⟨q1,q2,rfl,rfl,HF.out⟩
     ·skip
      go_simp
      have R1:=HR0.out.al1
      refine hK.out _ _ ⟨R1.bel,fun _=>trivial⟩ ?_
      clear hK K
      obtain ⟨q1,hq1⟩:∃ q,q=v0.heap.size:=⟨_,rfl⟩
      rw [←hq1] at R1 ⊢
      have HR1:=Hd.mk R1
      generalize v0.alloc _=v1 at *
      clear hq1 R1 HR0
      refine AnyG.ready (rs:=[2,4]) (by kernel_rfl) (by simp) ?_
      refine AllG.cons rfl (fun K hK=>?_) (AllG.cons rfl (fun K hK=>?_) (AllG.nil))
      ·skip
       go_simp
       refine (CC.out _ _ _ _ _ _ HR1.out).mono ?_
       rintro e v2 ⟨⟨xb,rfl,X2⟩,b2⟩
       have R2:=HR1.out.two b2 X2
       refine hK.out _ _ ⟨R2.bel,fun _=>trivial⟩ ?_
       clear hK K b2 X2 HR1
       have HR2:=Hd.mk R2
       clear R2
       refine AnyG.ready (rs:=[4]) (by kernel_rfl) (by simp) ?_
       refine AllG.cons rfl (fun K hK=>?_) (AllG.nil)
       go_simp
       have R3:=HR2.out.al2
       refine hK.out _ _ ⟨R3.bel,fun _=>trivial⟩ ?_
       clear hK K
       obtain ⟨q2,hq2⟩:∃ q,q=v2.heap.size:=⟨_,rfl⟩
       rw [←hq2] at R3 ⊢
       have HR3:=Hd.mk R3
       generalize v2.alloc _=v3 at *
       clear hq2 R3 HR2
       refine AnyG.ready (rs:=[5]) (by kernel_rfl) (by simp) ?_
       refine AllG.cons rfl (fun K hK=>?_) (AllG.nil)
       refine step_storeSt rfl _ _ rfl q1 rfl (vwA s xg) _ rfl (HR3.out.bq q1 rfl).1 rfl rfl (vw_one _ _) ?_
       intro v4 n4 k4
       obtain ⟨B4,Z4,PUT⟩:=HR3.out.put2 n4 k4
       refine hK.out _ _ ⟨B4,fun _=>trivial⟩ ?_
       clear hK K n4 k4 B4 HR3
       refine AnyG.ready (rs:=[6]) (by kernel_rfl) (by simp) ?_
       refine AllG.cons rfl (fun K hK=>?_) (AllG.nil)
       refine step_storeSt rfl _ _ rfl q2 rfl (vwA s xb) _ rfl Z4 rfl rfl (vw_one _ _) ?_
       intro v5 n5 k5
       have F5:=PUT v5 n5 k5
       refine hK.out _ _ ⟨F5.1,fun _=>trivial⟩ ?_
       clear hK K n5 k5 PUT Z4
       have HF:=Hd.mk F5
       clear F5
       refine AnyG.done (by kernel_rfl) ?_ _
       go_wp2_with fail
       go_meet
       exact ⟨q1,q2,rfl,rfl,HF.out⟩
      ·skip
       go_simp
       have R2:=HR1.out.al2
       refine hK.out _ _ ⟨R2.bel,fun _=>trivial⟩ ?_
       clear hK K
       obtain ⟨q2,hq2⟩:∃ q,q=v1.heap.size:=⟨_,rfl⟩
       rw [←hq2] at R2 ⊢
       have HR2:=Hd.mk R2
       generalize v1.alloc _=v2 at *
       clear hq2 R2 HR1
       refine AnyG.ready (rs:=[2]) (by kernel_rfl) (by simp) ?_
       refine AllG.cons rfl (fun K hK=>?_) (AllG.nil)
       go_simp
       refine (CC.out _ _ _ _ _ _ HR2.out).mono ?_
       rintro e v3 ⟨⟨xb,rfl,X3⟩,b3⟩
       have R3:=HR2.out.two b3 X3
       refine hK.out _ _ ⟨R3.bel,fun _=>trivial⟩ ?_
       clear hK K b3 X3 HR2
       have HR3:=Hd.mk R3
       clear R3
       refine AnyG.ready (rs:=[5]) (by kernel_rfl) (by simp) ?_
       refine AllG.cons rfl (fun K hK=>?_) (AllG.nil)
       refine step_storeSt rfl _ _ rfl q1 rfl (vwA s xg) _ rfl (HR3.out.bq q1 rfl).1 rfl rfl (vw_one _ _) ?_
       intro v4 n4 k4
       obtain ⟨B4,Z4,PUT⟩:=HR3.out.put2 n4 k4
       refine hK.out _ _ ⟨B4,fun _=>trivial⟩ ?_
       clear hK K n4 k4 B4 HR3
       refine AnyG.ready (rs:=[6]) (by kernel_rfl) (by simp) ?_
       refine AllG.cons rfl (fun K hK=>?_) (AllG.nil)
       refine step_storeSt rfl _ _ rfl q2 rfl (vwA s xb) _ rfl Z4 rfl rfl (vw_one _ _) ?_
       intro v5 n5 k5
       have F5:=PUT v5 n5 k5
       refine hK.out _ _ ⟨F5.1,fun _=>trivial⟩ ?_
       clear hK K n5 k5 PUT Z4
       have HF:=Hd.mk F5
       clear F5
       refine AnyG.done (by kernel_rfl) ?_ _
       go_wp2_with fail
       go_meet
       exact ⟨q1,q2,rfl,rfl,HF.out⟩
     ·skip
      go_simp
      have R1:=HR0.out.al2
      refine hK.out _ _ ⟨R1.bel,fun _=>trivial⟩ ?_
      clear hK K
      obtain ⟨q2,hq2⟩:∃ q,q=v0.heap.size:=⟨_,rfl⟩
      rw [←hq2] at R1 ⊢
      have HR1:=Hd.mk R1
      generalize v0.alloc _=v1 at *
      clear hq2 R1 HR0
      refine AnyG.ready (rs:=[2,3]) (by kernel_rfl) (by simp) ?_
      refine AllG.cons rfl (fun K hK=>?_) (AllG.cons rfl (fun K hK=>?_) (AllG.nil))
      ·skip
       go_simp
       refine (CC.out _ _ _ _ _ _ HR1.out).mono ?_
       rintro e v2 ⟨⟨xb,rfl,X2⟩,b2⟩
       have R2:=HR1.out.two b2 X2
       refine hK.out _ _ ⟨R2.bel,fun _=>trivial⟩ ?_
       clear hK K b2 X2 HR1
       have HR2:=Hd.mk R2
       clear R2
       refine AnyG.ready (rs:=[3]) (by kernel_rfl) (by simp) ?_
       refine AllG.cons rfl (fun K hK=>?_) (AllG.nil)
       go_simp
       have R3:=HR2.out.al1
       refine hK.out _ _ ⟨R3.bel,fun _=>trivial⟩ ?_
       clear hK K
       obtain ⟨q1,hq1⟩:∃ q,q=v2.heap.size:=⟨_,rfl⟩
       rw [←hq1] at R3 ⊢
       have HR3:=Hd.mk R3
       generalize v2.alloc _=v3 at *
       clear hq1 R3 HR2
       refine AnyG.ready (rs:=[5]) (by kernel_rfl) (by simp) ?_
       refine AllG.cons rfl (fun K hK=>?_) (AllG.nil)
       refine step_storeSt rfl _ _ rfl q1 rfl (vwA s xg) _ rfl (HR3.out.bq q1 rfl).1 rfl rfl (vw_one _ _) ?_
       intro v4 n4 k4
       obtain ⟨B4,Z4,PUT⟩:=HR3.out.put2 n4 k4
       refine hK.out _ _ ⟨B4,fun _=>trivial⟩ ?_
       clear hK K n4 k4 B4 HR3
       refine AnyG.ready (rs:=[6]) (by kernel_rfl) (by simp) ?_
       refine AllG.cons rfl (fun K hK=>?_) (AllG.nil)
       refine step_storeSt rfl _ _ rfl q2 rfl (vwA s xb) _ rfl Z4 rfl rfl (vw_one _ _) ?_
       intro v5 n5 k5
       have F5:=PUT v5 n5 k5
       refine hK.out _ _ ⟨F5.1,fun _=>trivial⟩ ?_
       clear hK K n5 k5 PUT Z4
       have HF:=Hd.mk F5
       clear F5
       refine AnyG.done (by kernel_rfl) ?_ _
       go_wp2_with fail
       go_meet
       exact ⟨q1,q2,rfl,rfl,HF.out⟩
      ·skip
       go_simp
       have R2:=HR1.out.al1
       refine hK.out _ _ ⟨R2.bel,fun _=>trivial⟩ ?_
       clear hK K
       obtain ⟨q1,hq1⟩:∃ q,q=v1.heap.size:=⟨_,rfl⟩
       rw [←hq1] at R2 ⊢
       have HR2:=Hd.mk R2
       generalize v1.alloc _=v2 at *
       clear hq1 R2 HR1
       refine AnyG.ready (rs:=[2]) (by kernel_rfl) (by simp) ?_
       refine AllG.cons rfl (fun K hK=>?_) (AllG.nil)
       go_simp
       refine (CC.out _ _ _ _ _ _ HR2.out).mono ?_
       rintro e v3 ⟨⟨xb,rfl,X3⟩,b3⟩
       have R3:=HR2.out.two b3 X3
       refine hK.out _ _ ⟨R3.bel,fun _=>trivial⟩ ?_
       clear hK K b3 X3 HR2
       have HR3:=Hd.mk R3
       clear R3
       refine AnyG.ready (rs:=[5]) (by kernel_rfl) (by simp) ?_
       refine AllG.cons rfl (fun K hK=>?_) (AllG.nil)
       refine step_storeSt rfl _ _ rfl q1 rfl (vwA s xg) _ rfl (HR3.out.bq q1 rfl).1 rfl rfl (vw_one _ _) ?_
       intro v4 n4 k4
       obtain ⟨B4,Z4,PUT⟩:=HR3.out.put2 n4 k4
       refine hK.out _ _ ⟨B4,fun _=>trivial⟩ ?_
       clear hK K n4 k4 B4 HR3
       refine AnyG.ready (rs:=[6]) (by kernel_rfl) (by simp) ?_
       refine AllG.cons rfl (fun K hK=>?_) (AllG.nil)
       refine step_storeSt rfl _ _ rfl q2 rfl (vwA s xb) _ rfl Z4 rfl rfl (vw_one _ _) ?_
       intro v5 n5 k5
       have F5:=PUT v5 n5 k5
       refine hK.out _ _ ⟨F5.1,fun _=>trivial⟩ ?_
       clear hK K n5 k5 PUT Z4
       have HF:=Hd.mk F5
       clear F5
       refine AnyG.done (by kernel_rfl) ?_ _
       go_wp2_with fail
       go_meet
       exact ⟨q1,q2,rfl,rfl,HF.out⟩
    case rest =>
     obtain ⟨q8,q9,rfl,rfl,b7,⟨hq8,hq9,hq89⟩,B8,B9⟩:=hcut
     obtain ⟨w7,hw7⟩:∃ w7,w7=wc:=⟨_,rfl⟩
     rw [←hw7] at b7 B8 B9 ⊢
     clear hw7
     obtain ⟨M2,hM2⟩:∃ M,M=T2 (fun j=>j=g∨j=h) (some q8) (some q9):=⟨_,rfl⟩
     rw [←hM2] at B8 B9
     have h7:∀ j,j<wr.heap.size→M2 j→(j=g∨j=h):=fun j hj e=>by
      rw [hM2] at e
      rcases e with e | e | e
      ·exact e
      ·injection e with e;omega
      ·injection e with e;omega
     have m7:∀ j,M2 j→j<w7.heap.size:=fun j e=>by
      have:=b7.size
      rw [hM2] at e
      rcases e with e | e | e
      ·have:=HM.out j e;omega
      ·injection e with e;rw [←e];exact B8.lt
      ·injection e with e;rw [←e];exact B9.lt
     have H7:Hd (Below wr.heap.size wr w7∧BX M2 w7 q8 s∧BX M2 w7 q9 s∧VwR M2 w7 s xg∧VwR M2 w7 s xh∧Blk w7 g 36 (vwA s xg)∧Blk w7 h 36 (vwA s xh)):=⟨b7,B8,B9,HV.out.1.step (Kept.of_below b7 _) h7,HV.out.2.step (Kept.of_below b7 _) h7,HG.out.1.kept (Kept.of_below b7 (fun _=>False)) id,HG.out.2.kept (Kept.of_below b7 (fun _=>False)) id⟩
     have HMM:Hd (M2=T2 (fun j=>j=g∨j=h) (some q8) (some q9)∧(wr.heap.size≤q8∧wr.heap.size≤q9)):=⟨hM2,hq8,hq9⟩
     have hne:∀ {W0 Y q r v u y},P3 W0 M2 p.1 p.1 p.2 q r v u y Y→∀ j,j<W0.heap.size→T2 M2 q r j→M2 j:=fun P j hj e=>by
      rcases e with e | e | e
      ·exact e
      ·have:=(P.bq j e).2;omega
      ·have:=(P.br j e).2;omega
     have CS:Hd (∀ Y q r v u y,P3 w7 M2 p.1 p.1 p.2 q r v u y Y→Calls Try.prog 10 #[.agg (vwA s xg),.agg (opA (H k).o (H k).ha (H k).hn (H k).hc)] Y fun e w'=>(∃ x a c,e=.returned (.tuple #[.agg (vwA p.1 x),.slice a p.2.length c])∧VwR (T2 M2 q r) w' p.1 x∧TkS (T2 M2 q r) w' a c p.2)∧Below Y.heap.size Y w'):=⟨fun Y q r v u y P=>by
      have h2:=H7.out.2.2.2.1.step (Kept.of_below P.bel _) (hne P)
      have bel:=H7.out.1.trans (P.bel.mono H7.out.1.size)
      refine (step_ok s (H k).o xg.a xg.c xg.b xg.d (H k).ha (H k).hn (H k).hc (H k).hf Y _ h2.1 h2.2 P.lt hI.out.iv.few (Nat.le_trans hI.out.iv.cnt (by omega)) (HOK.out.2.1.carry bel) HOK.out.2.2.2.1).mono ?_
      rintro e w' ⟨⟨v,u,rfl,V,a1,c1,rfl,t1⟩,b⟩
      obtain ⟨x,e,X⟩:=V.vw
      rw [HPP.out]
      exact ⟨⟨x,a1,c1,by rw [e];rfl,X,t1⟩,b⟩⟩
     have HR0:Hd (P3 w7 M2 p.1 p.1 p.2 none none none none none w7.drew):=⟨P3.start (Below.refl _ _).drew m7 (fun x e=>by cases e)⟩
     have HOP:Hd (∀ W,Below w7.heap.size w7 W→W.rangeAt b (off+k*19) (opA (H k).o (H k).ha (H k).hn (H k).hc).toList):=⟨fun W bl=>HOK.out.1 W (b7.trans (bl.mono b7.size))⟩
     have HM7:=Hd.mk m7
     clear B8 B9 h7 m7 CC hM2 hq8 hq9 b7
     go_upto_region 8 with fail
     go_cut [10,11] from 20 to 68 (fun s10 s11 wx=>C1 w7 M2 p.1 p.2 s10 s11 wx)
     case first =>
      refine AnyG.start (T:=fun Y=>Below w7.heap.size w7 Y) (U:=fun _=>True) (j0:=100) (by kernel_rfl) ?_
      generalize w7.drew=v0 at *
      refine .tq (v:=.agg (vwA s xg)) 0 34 HR0.out.bel ?_ (hy:=fun w hSw=>by exact exec_loadSt _ rfl g rfl _ (H7.out.2.2.2.2.2.1.kept (Kept.of_below hSw (fun _=>False)) id) rfl);simp only [oqA,oqB,oqC]
      refine .tq 1 35 HR0.out.bel ?_;simp only [oqA,oqB,oqC]
      refine .tq 2 36 HR0.out.bel ?_;simp only [oqA,oqB,oqC]
      refine .tq (v:=.pointer (some ⟨b,off+k*19,none⟩)) 3 37 HR0.out.bel ?_ (hy:=fun w hSw=>by go_simp);simp only [oqA,oqB,oqC]
      refine .tq (v:=.agg (opA (H k).o (H k).ha (H k).hn (H k).hc)) 4 38 HR0.out.bel ?_ (hy:=fun w hSw=>by exact exec_loadOp _ rfl b (off+k*19) rfl _ _ _ _ (HOP.out w hSw));simp only [oqA,oqB,oqC]
      refine AnyG.ready (rs:=[5,9]) (by kernel_rfl) (by simp) ?_
      refine AllG.cons rfl (fun K hK=>?_) (AllG.cons rfl (fun K hK=>?_) (AllG.nil))
      ·skip
       go_simp
       refine (CS.out _ _ _ _ _ _ HR0.out).mono ?_
       rintro e v1 ⟨⟨xv,ak,ck,rfl,X1,Y1⟩,b1⟩
       have R1:=HR0.out.oney b1 X1 Y1
       refine hK.out _ _ ⟨R1.bel,fun _=>trivial⟩ ?_
       clear hK K b1 X1 Y1 HR0
       have HR1:=Hd.mk R1
       clear R1
       refine .tq 6 33 HR1.out.bel ?_;simp only [oqA,oqB,oqC]
       refine .tq 7 40 HR1.out.bel ?_;simp only [oqA,oqB,oqC]
       refine .tq 8 41 HR1.out.bel ?_;simp only [oqA,oqB,oqC]
       refine AnyG.ready (rs:=[9]) (by kernel_rfl) (by simp) ?_
       refine AllG.cons rfl (fun K hK=>?_) (AllG.nil)
       go_simp
       have R2:=HR1.out.al1
       refine hK.out _ _ ⟨R2.bel,fun _=>trivial⟩ ?_
       clear hK K
       obtain ⟨q1,hq1⟩:∃ q,q=v1.heap.size:=⟨_,rfl⟩
       rw [←hq1] at R2 ⊢
       have HR2:=Hd.mk R2
       generalize v1.alloc _=v2 at *
       clear hq1 R2 HR1
       refine AnyG.ready (rs:=[10]) (by kernel_rfl) (by simp) ?_
       refine AllG.cons rfl (fun K hK=>?_) (AllG.nil)
       refine step_storeSt rfl _ _ rfl q1 rfl (vwA p.1 xv) _ rfl (HR2.out.bq q1 rfl).1 rfl rfl (vw_one _ _) ?_
       intro v3 n3 k3
       have F3:=HR2.out.put1 n3 k3
       refine hK.out _ _ ⟨F3.1,fun _=>trivial⟩ ?_
       clear hK K n3 k3 HR2
       have HF:=Hd.mk F3
       clear F3
       refine AnyG.ready (rs:=[11]) (by kernel_rfl) (by simp) ?_
       refine AllG.cons rfl (fun K hK=>?_) (AllG.nil)
       go_simp
       refine hK.out _ _ ⟨HF.out.1,fun _=>trivial⟩ ?_
       clear hK K
       refine AnyG.done (by kernel_rfl) ?_ _
       go_wp2_with fail
       go_meet
       exact ⟨q1,_,_,rfl,rfl,HF.out⟩
      ·skip
       go_simp
       have R1:=HR0.out.al1
       refine hK.out _ _ ⟨R1.bel,fun _=>trivial⟩ ?_
       clear hK K
       obtain ⟨q1,hq1⟩:∃ q,q=v0.heap.size:=⟨_,rfl⟩
       rw [←hq1] at R1 ⊢
       have HR1:=Hd.mk R1
       generalize v0.alloc _=v1 at *
       clear hq1 R1 HR0
       refine AnyG.ready (rs:=[5]) (by kernel_rfl) (by simp) ?_
       refine AllG.cons rfl (fun K hK=>?_) (AllG.nil)
       go_simp
       refine (CS.out _ _ _ _ _ _ HR1.out).mono ?_
       rintro e v2 ⟨⟨xv,ak,ck,rfl,X2,Y2⟩,b2⟩
       have R2:=HR1.out.oney b2 X2 Y2
       refine hK.out _ _ ⟨R2.bel,fun _=>trivial⟩ ?_
       clear hK K b2 X2 Y2 HR1
       have HR2:=Hd.mk R2
       clear R2
       refine .tq 6 33 HR2.out.bel ?_;simp only [oqA,oqB,oqC]
       refine .tq 7 40 HR2.out.bel ?_;simp only [oqA,oqB,oqC]
       refine .tq 8 41 HR2.out.bel ?_;simp only [oqA,oqB,oqC]
       refine AnyG.ready (rs:=[10]) (by kernel_rfl) (by simp) ?_
       refine AllG.cons rfl (fun K hK=>?_) (AllG.nil)
       refine step_storeSt rfl _ _ rfl q1 rfl (vwA p.1 xv) _ rfl (HR2.out.bq q1 rfl).1 rfl rfl (vw_one _ _) ?_
       intro v3 n3 k3
       have F3:=HR2.out.put1 n3 k3
       refine hK.out _ _ ⟨F3.1,fun _=>trivial⟩ ?_
       clear hK K n3 k3 HR2
       have HF:=Hd.mk F3
       clear F3
       refine AnyG.ready (rs:=[11]) (by kernel_rfl) (by simp) ?_
       refine AllG.cons rfl (fun K hK=>?_) (AllG.nil)
       go_simp
       refine hK.out _ _ ⟨HF.out.1,fun _=>trivial⟩ ?_
       clear hK K
       refine AnyG.done (by kernel_rfl) ?_ _
       go_wp2_with fail
       go_meet
       exact ⟨q1,_,_,rfl,rfl,HF.out⟩
     case rest =>
      obtain ⟨q10,a11,c11,rfl,rfl,b8,hq10,B10,T11⟩:=hcut
      obtain ⟨w8,hw8⟩:∃ w8,w8=wc:=⟨_,rfl⟩
      rw [←hw8] at b8 B10 T11 ⊢
      clear hw8 CS HR0 HOP
      obtain ⟨M3,hM3⟩:∃ M,M=T2 M2 (some q10) none:=⟨_,rfl⟩
      rw [←hM3] at B10 T11
      have h8:∀ j,j<w7.heap.size→M3 j→M2 j:=fun j hj e=>by
       rw [hM3] at e
       rcases e with e | e | e
       ·exact e
       ·injection e with e;omega
       ·cases e
      have m8:∀ j,M3 j→j<w8.heap.size:=fun j e=>by
       have:=b8.size
       rw [hM3] at e
       rcases e with e | e | e
       ·have:=HM7.out j e;omega
       ·injection e with e;rw [←e];exact B10.lt
       ·cases e
      have H8:Hd (Below w7.heap.size w7 w8∧BX M3 w8 q8 s∧BX M3 w8 q9 s∧VwR M3 w8 s xh∧Blk w8 g 36 (vwA s xg)∧Blk w8 h 36 (vwA s xh)∧BX M3 w8 q10 p.1∧TkS M3 w8 a11 c11 p.2):=⟨b8,H7.out.2.1.carry b8 h8,H7.out.2.2.1.carry b8 h8,H7.out.2.2.2.2.1.step (Kept.of_below b8 _) h8,H7.out.2.2.2.2.2.1.kept (Kept.of_below b8 (fun _=>False)) id,H7.out.2.2.2.2.2.2.kept (Kept.of_below b8 (fun _=>False)) id,B10,T11⟩
      have hne3:∀ {W0 Y q r v u y},P3 W0 M3 p.1 p.1 p.2 q r v u y Y→∀ j,j<W0.heap.size→T2 M3 q r j→M3 j:=fun P j hj e=>by
       rcases e with e | e | e
       ·exact e
       ·have:=(P.bq j e).2;omega
       ·have:=(P.br j e).2;omega
      have CT:Hd (∀ Y q r v u y,P3 w8 M3 p.1 p.1 p.2 q r v u y Y→Calls Try.prog 11 #[.agg (vwA s xh),.agg (opA (H k).o (H k).ha (H k).hn (H k).hc)] Y fun e w'=>(∃ x a c,e=.returned (.tuple #[.agg (vwA p.1 x),.slice a p.2.length c])∧VwR (T2 M3 q r) w' p.1 x∧TkS (T2 M3 q r) w' a c p.2)∧Below Y.heap.size Y w'):=⟨fun Y q r v u y P=>by
       have h2:=H8.out.2.2.2.1.step (Kept.of_below P.bel _) (hne3 P)
       have z7:=H7.out.1.size
       have bel8:=H7.out.1.trans (H8.out.1.mono z7)
       have bel:=bel8.trans (P.bel.mono bel8.size)
       refine (told_ok s (H k).o xh.a xh.c xh.b xh.d (H k).ha (H k).hn (H k).hc (H k).hf Y _ h2.1 h2.2 P.lt hI.out.iv.few (Nat.le_trans hI.out.iv.cnt (by omega)) (HOK.out.2.1.carry bel) HOK.out.2.2.2.1).mono ?_
       rintro e w' ⟨⟨v,u,rfl,V,a1,c1,rfl,t1⟩,b⟩
       obtain ⟨x,e,X⟩:=V.vw
       rw [HPP.out]
       exact ⟨⟨x,a1,c1,by rw [e];rfl,X,t1⟩,b⟩⟩
      have HR0:Hd (P3 w8 M3 p.1 p.1 p.2 none none none none none w8.drew):=⟨P3.start (Below.refl _ _).drew m8 (fun x e=>by cases e)⟩
      have HOP:Hd (∀ W,Below w8.heap.size w8 W→W.rangeAt b (off+k*19) (opA (H k).o (H k).ha (H k).hn (H k).hc).toList):=⟨fun W bl=>by
       have z7:=H7.out.1.size
       have bel8:=H7.out.1.trans (H8.out.1.mono z7)
       exact HOK.out.1 W (bel8.trans (bl.mono bel8.size))⟩
      have HM3:Hd (M3=T2 M2 (some q10) none∧w7.heap.size≤q10):=⟨hM3,hq10⟩
      clear B10 T11 h8 m8 hM3 hq10 b8
      go_upto_region 9 with fail
      go_cut [12,13] from 20 to 68 (fun s12 s13 wx=>C1 w8 M3 p.1 p.2 s12 s13 wx)
      case first =>
       refine AnyG.start (T:=fun Y=>Below w8.heap.size w8 Y) (U:=fun _=>True) (j0:=100) (by kernel_rfl) ?_
       generalize w8.drew=v0 at *
       refine .tq (v:=.agg (vwA s xh)) 0 43 HR0.out.bel ?_ (hy:=fun w hSw=>by exact exec_loadSt _ rfl h rfl _ (H8.out.2.2.2.2.2.1.kept (Kept.of_below hSw (fun _=>False)) id) rfl);simp only [oqA,oqB,oqC]
       refine .tq 1 44 HR0.out.bel ?_;simp only [oqA,oqB,oqC]
       refine .tq 2 45 HR0.out.bel ?_;simp only [oqA,oqB,oqC]
       refine .tq (v:=.pointer (some ⟨b,off+k*19,none⟩)) 3 46 HR0.out.bel ?_ (hy:=fun w hSw=>by go_simp);simp only [oqA,oqB,oqC]
       refine .tq (v:=.agg (opA (H k).o (H k).ha (H k).hn (H k).hc)) 4 47 HR0.out.bel ?_ (hy:=fun w hSw=>by exact exec_loadOp _ rfl b (off+k*19) rfl _ _ _ _ (HOP.out w hSw));simp only [oqA,oqB,oqC]
       refine AnyG.ready (rs:=[5,9]) (by kernel_rfl) (by simp) ?_
       refine AllG.cons rfl (fun K hK=>?_) (AllG.cons rfl (fun K hK=>?_) (AllG.nil))
       ·skip
        go_simp
        refine (CT.out _ _ _ _ _ _ HR0.out).mono ?_
        rintro e v1 ⟨⟨xv,ak,ck,rfl,X1,Y1⟩,b1⟩
        have R1:=HR0.out.oney b1 X1 Y1
        refine hK.out _ _ ⟨R1.bel,fun _=>trivial⟩ ?_
        clear hK K b1 X1 Y1 HR0
        have HR1:=Hd.mk R1
        clear R1
        refine .tq 6 42 HR1.out.bel ?_;simp only [oqA,oqB,oqC]
        refine .tq 7 49 HR1.out.bel ?_;simp only [oqA,oqB,oqC]
        refine .tq 8 50 HR1.out.bel ?_;simp only [oqA,oqB,oqC]
        refine AnyG.ready (rs:=[9]) (by kernel_rfl) (by simp) ?_
        refine AllG.cons rfl (fun K hK=>?_) (AllG.nil)
        go_simp
        have R2:=HR1.out.al1
        refine hK.out _ _ ⟨R2.bel,fun _=>trivial⟩ ?_
        clear hK K
        obtain ⟨q1,hq1⟩:∃ q,q=v1.heap.size:=⟨_,rfl⟩
        rw [←hq1] at R2 ⊢
        have HR2:=Hd.mk R2
        generalize v1.alloc _=v2 at *
        clear hq1 R2 HR1
        refine AnyG.ready (rs:=[10]) (by kernel_rfl) (by simp) ?_
        refine AllG.cons rfl (fun K hK=>?_) (AllG.nil)
        refine step_storeSt rfl _ _ rfl q1 rfl (vwA p.1 xv) _ rfl (HR2.out.bq q1 rfl).1 rfl rfl (vw_one _ _) ?_
        intro v3 n3 k3
        have F3:=HR2.out.put1 n3 k3
        refine hK.out _ _ ⟨F3.1,fun _=>trivial⟩ ?_
        clear hK K n3 k3 HR2
        have HF:=Hd.mk F3
        clear F3
        refine AnyG.ready (rs:=[11]) (by kernel_rfl) (by simp) ?_
        refine AllG.cons rfl (fun K hK=>?_) (AllG.nil)
        go_simp
        refine hK.out _ _ ⟨HF.out.1,fun _=>trivial⟩ ?_
        clear hK K
        refine AnyG.done (by kernel_rfl) ?_ _
        go_wp2_with fail
        go_meet
        exact ⟨q1,_,_,rfl,rfl,HF.out⟩
       ·skip
        go_simp
        have R1:=HR0.out.al1
        refine hK.out _ _ ⟨R1.bel,fun _=>trivial⟩ ?_
        clear hK K
        obtain ⟨q1,hq1⟩:∃ q,q=v0.heap.size:=⟨_,rfl⟩
        rw [←hq1] at R1 ⊢
        have HR1:=Hd.mk R1
        generalize v0.alloc _=v1 at *
        clear hq1 R1 HR0
        refine AnyG.ready (rs:=[5]) (by kernel_rfl) (by simp) ?_
        refine AllG.cons rfl (fun K hK=>?_) (AllG.nil)
        go_simp
        refine (CT.out _ _ _ _ _ _ HR1.out).mono ?_
        rintro e v2 ⟨⟨xv,ak,ck,rfl,X2,Y2⟩,b2⟩
        have R2:=HR1.out.oney b2 X2 Y2
        refine hK.out _ _ ⟨R2.bel,fun _=>trivial⟩ ?_
        clear hK K b2 X2 Y2 HR1
        have HR2:=Hd.mk R2
        clear R2
        refine .tq 6 42 HR2.out.bel ?_;simp only [oqA,oqB,oqC]
        refine .tq 7 49 HR2.out.bel ?_;simp only [oqA,oqB,oqC]
        refine .tq 8 50 HR2.out.bel ?_;simp only [oqA,oqB,oqC]
        refine AnyG.ready (rs:=[10]) (by kernel_rfl) (by simp) ?_
        refine AllG.cons rfl (fun K hK=>?_) (AllG.nil)
        refine step_storeSt rfl _ _ rfl q1 rfl (vwA p.1 xv) _ rfl (HR2.out.bq q1 rfl).1 rfl rfl (vw_one _ _) ?_
        intro v3 n3 k3
        have F3:=HR2.out.put1 n3 k3
        refine hK.out _ _ ⟨F3.1,fun _=>trivial⟩ ?_
        clear hK K n3 k3 HR2
        have HF:=Hd.mk F3
        clear F3
        refine AnyG.ready (rs:=[11]) (by kernel_rfl) (by simp) ?_
        refine AllG.cons rfl (fun K hK=>?_) (AllG.nil)
        go_simp
        refine hK.out _ _ ⟨HF.out.1,fun _=>trivial⟩ ?_
        clear hK K
        refine AnyG.done (by kernel_rfl) ?_ _
        go_wp2_with fail
        go_meet
        exact ⟨q1,_,_,rfl,rfl,HF.out⟩
      case rest =>
       obtain ⟨q12,a13,c13,rfl,rfl,b9,hq12,B12,T13⟩:=hcut
       obtain ⟨w9,hw9⟩:∃ w9,w9=wc:=⟨_,rfl⟩
       rw [←hw9] at b9 B12 T13 ⊢
       clear hw9 CT HR0 HOP
       obtain ⟨M4,hM4⟩:∃ M,M=T2 M3 (some q12) none:=⟨_,rfl⟩
       rw [←hM4] at B12 T13
       have h9:∀ j,j<w8.heap.size→M4 j→M3 j:=fun j hj e=>by
        rw [hM4] at e
        rcases e with e | e | e
        ·exact e
        ·injection e with e;omega
        ·cases e
       have hgM:∀ j,(j=g∨j=h)→M4 j:=fun j e=>by
        rw [hM4,HM3.out.1,HMM.out.1]
        exact .inl (.inl (.inl e))
       obtain ⟨x8,P8,V8⟩:=H8.out.2.1.carry b9 h9
       obtain ⟨x9,P9,V9⟩:=H8.out.2.2.1.carry b9 h9
       obtain ⟨x10,P10,V10⟩:=H8.out.2.2.2.2.2.2.1.carry b9 h9
       obtain ⟨x12,P12,V12⟩:=B12
       have T11:=H8.out.2.2.2.2.2.2.2.step (Kept.of_below b9 _) h9
       have SM1:=same23_ok p.1 x10.a x10.c x10.b x10.d x12.a x12.c x12.b x12.d w9 (V10.1.read (Kept.refl _ _)) (V10.2.read (Kept.refl _ _)) (V12.1.read (Kept.refl _ _)) (V12.2.read (Kept.refl _ _)) HP.out.1.few (by have:=HP.out.1.run;omega)
       have SM1:Calls Try.prog 12 #[.agg (vwA p.1 x10),.agg (vwA p.1 x12)] w9 fun e w'=>e=.returned (.bool true)∧Below w9.heap.size w9 w':=SM1
       have SM2:Hd (∀ W,Below w9.heap.size w9 W→Calls Try.prog 13 #[.slice a11 p.2.length c11,.slice a13 p.2.length c13] W fun e w'=>e=.returned (.bool true)∧Below W.heap.size W w'):=⟨fun W bl=>same_ok a11 a13 c11 c13 p.2 W (T11.read (Kept.of_below bl _)).2.2 (T13.read (Kept.of_below bl _)).2.2 (by have:=HP.out.2;omega)⟩
       have SM3:Hd (∀ W,Below w9.heap.size w9 W→Calls Try.prog 12 #[.agg (vwA s x8),.agg (vwA s x9)] W fun e w'=>e=.returned (.bool true)∧Below W.heap.size W w'):=⟨fun W bl=>same23_ok s x8.a x8.c x8.b x8.d x9.a x9.c x9.b x9.d W (V8.1.read (Kept.of_below bl _)) (V8.2.read (Kept.of_below bl _)) (V9.1.read (Kept.of_below bl _)) (V9.2.read (Kept.of_below bl _)) hI.out.iv.few (by have:=hI.out.iv.run;omega)⟩
       have H9:=Hd.mk (And.intro P8 (And.intro P9 (And.intro P10 P12)))
       have HY:=Hd.mk (And.intro b9 (And.intro V10 (And.intro V12 hgM)))
       have HNE:Hd (g≠h∧(q10≠g∧q10≠h∧q12≠g∧q12≠h)):=by
        have z7:=H7.out.1.size
        have z8:=H8.out.1.size
        have l1:=H8.out.2.2.2.2.1.lt
        have l2:=H8.out.2.2.2.2.2.1.lt
        have l3:=HG.out.1.lt
        have l4:=HG.out.2.lt
        have l5:=HM3.out.2
        exact ⟨hI.out.lg.2.2,by omega,by omega,by omega,by omega⟩
       clear P8 V8 P9 V9 P10 V10 P12 V12 T11 T13 h9 hgM hq12 b9 hM4
       go_upto_region 12 with (first | (refine wpl_loadSt rfl _ rfl q10 rfl _ H9.out.2.2.1 rfl ?_) | (refine wpl_loadSt rfl _ rfl q12 rfl _ H9.out.2.2.2 rfl ?_) | (have hyy:=bxy;go_at_call 12;refine (SM3.out wy hyy).mono ?_;rintro e wz ⟨rfl,bz⟩) | (go_at_call 12;refine SM1.mono ?_;rintro e wx ⟨rfl,bx⟩) | (go_at_call 13;refine (SM2.out wx bx).mono ?_;rintro e wy ⟨rfl,by1⟩;have bxy:=bx.trans (by1.mono bx.size);have KXY:=Kept.of_below bxy (fun _=>False)) | (refine wpl_loadSt_w rfl _ rfl q8 rfl _ (H9.out.1.kept KXY id) rfl ?_) | (refine wpl_loadSt_w rfl _ rfl q9 rfl _ (H9.out.2.1.kept KXY id) rfl ?_))
       have bw:=bxy.trans (bz.mono bxy.size)
       have HZ:Hd (Below w9.heap.size w9 wz.drew∧Blk wz.drew q10 36 (vwA p.1 x10)∧Blk wz.drew q12 36 (vwA p.1 x12)∧Blk wz.drew g 36 (vwA s xg)∧Blk wz.drew h 36 (vwA s xh)):=by
        have bd:=bw.drew
        have kd:=Kept.of_below bd (fun _=>False)
        have k8:=Kept.of_below HY.out.1 (fun _=>False)
        exact ⟨bd,H9.out.2.2.1.kept kd id,H9.out.2.2.2.kept kd id,(H8.out.2.2.2.2.1.kept k8 id).kept kd id,(H8.out.2.2.2.2.2.1.kept k8 id).kept kd id⟩
       clear SM1 SM2 SM3 H9 bx by1 bxy KXY bz bw
       refine AnyG.start (T:=fun Y=>Blk Y q10 36 (vwA p.1 x10)∧Blk Y q12 36 (vwA p.1 x12)) (U:=fun _=>True) (j0:=100) (by kernel_rfl) ?_
       generalize wz.drew=v0 at *
       have R0:Blk v0 q10 36 (vwA p.1 x10)∧Blk v0 q12 36 (vwA p.1 x12):=⟨HZ.out.2.1,HZ.out.2.2.1⟩
       refine .tq (v:=.agg (vwA p.1 x10)) 0 67 R0 ?_ (hy:=fun w hSw=>exec_loadSt _ rfl q10 rfl _ hSw.1 rfl);simp only [oqA,oqB,oqC]
       refine .tq (v:=.agg (vwA p.1 x12)) 1 68 R0 ?_ (hy:=fun w hSw=>exec_loadSt _ rfl q12 rfl _ hSw.2 rfl);simp only [oqA,oqB,oqC]
       refine AnyG.ready (rs:=[2]) (by kernel_rfl) (by simp) ?_
       refine AllG.cons rfl (fun K hK=>?_) AllG.nil
       refine step_storeSt rfl _ _ rfl g rfl (vwA p.1 x10) _ rfl HZ.out.2.2.2.1 rfl rfl (vw_one _ _) ?_
       intro v1 n1 k1
       have R1:Blk v1 q10 36 (vwA p.1 x10)∧Blk v1 q12 36 (vwA p.1 x12):=⟨R0.1.kept k1 HNE.out.2.1,R0.2.kept k1 HNE.out.2.2.2.1⟩
       refine hK.out _ _ ⟨R1,fun _=>trivial⟩ ?_
       clear hK K R0
       refine AnyG.ready (rs:=[3]) (by kernel_rfl) (by simp) ?_
       refine AllG.cons rfl (fun K hK=>?_) AllG.nil
       refine step_storeSt rfl _ _ rfl h rfl (vwA p.1 x12) _ rfl (HZ.out.2.2.2.2.kept k1 (Ne.symm HNE.out.1)) rfl rfl (vw_one _ _) ?_
       intro v2 n2 k2
       have R2:Blk v2 q10 36 (vwA p.1 x10)∧Blk v2 q12 36 (vwA p.1 x12):=⟨R1.1.kept k2 HNE.out.2.2.1,R1.2.kept k2 HNE.out.2.2.2.2⟩
       refine hK.out _ _ ⟨R2,fun _=>trivial⟩ ?_
       clear hK K
       refine AnyG.done (by kernel_rfl) ?_ _
       have HNX:Hd (PlI w g h (k+1) p.1 v2):=⟨by
        have hgM:=HY.out.2.2.2
        have k12:Kept (fun j=>j=g∨j=h) v0 v2:=(k1.mono (fun j _ e=>.inl e)).trans (k2.mono (fun j _ e=>.inr e))
        have h1:=hI.out.bel
        have h2:=H7.out.1
        have h3:=H8.out.1
        have h4:=HY.out.1
        have h5:=HZ.out.1
        have lg:=hI.out.lg
        have z1:=h1.size
        have z2:=h2.size
        have z3:=h3.size
        have z4:=h4.size
        have z5:=h5.size
        have bel:Below w.heap.size w v2:=((((h1.trans (h2.mono z1)).trans (h3.mono (by omega))).trans (h4.mono (by omega))).trans (h5.mono (by omega))).trans (k12.below (by omega) (fun j e=>by omega))
        have kk:Kept M4 w9 v2:=(Kept.of_below h5 _).trans (k12.mono (fun j _ e=>hgM j e))
        exact ⟨bel,lg,⟨x10,n1.kept k2 HNE.out.1,HY.out.2.1.step kk (fun j _ e=>hgM j e)⟩,⟨x12,n2,HY.out.2.2.1.step kk (fun j _ e=>hgM j e)⟩,HP.out.1⟩⟩
       clear R1 R2 n1 k1 n2 k2
       go_wp2_with fail
       go_roundw
       case rel=>exact ⟨k+1,p.1,by omega,by omega,by go_num,HNX⟩
       case measure=>simp [intOf];omega
   ·have HE:=Hd.mk hI.out.bel
    clear hI
    by_cases hlt:k<n
    ·obtain rfl:k=100:=by omega
     go_wp2
     go_ret
     exact ⟨rfl,HE.out⟩
    ·have hge:n≤k:=by omega
     go_wp2
     go_ret
     exact ⟨rfl,HE.out⟩
end Go.Proofs.Ytlgibnmoogbdcaa
