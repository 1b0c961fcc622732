/-
  A level's box of 23 cells: parts of it written anew; what is answered out of such boxes.
  Who of one lane has waited too long, by the program.
  Lanes that are trimmed by the program (a level).
  The seats that run, those that run or wait; does a width fit; is a level empty: by the program, and by the reference.
-/
import Derived.Test.YtlgibnmoogbdcaaGreatR23
import Derived.Test.YtlgibnmoogbdcaaGreatR26
import Derived.Deep.MidRow
import Derived.Test.YtlgibnmoogbdcaaGreatR13
namespace Go.Proofs.YtlgibnmoogbdcaaGreat
open Go.RowKit
def sZ:St:=⟨⟨⟨#[]⟩,0,0,0,0,0,0,0,0,0⟩,false,0,0,0,0,0,0,xZ,[]⟩
theorem st_fair {w:World} {b:Nat} {s:St} {v u:Value} (h:Blk w b 34 (stB s v u)) (y:Fa) (v1:Value) :
  Blk (((((w.setCell ⟨b,17,none⟩ (.int .u64 y.r)).setCell ⟨b,18,none⟩ (.int .i64 y.g)).setCell ⟨b,19,none⟩ (.int .i64 y.n)).setCell ⟨b,20,none⟩ (.int .i64 y.o)).setCell ⟨b,21,none⟩ v1) b 34 (stB { s with x:=y } v1 u)
  ∧ Kept (fun k=>k=b) w (((((w.setCell ⟨b,17,none⟩ (.int .u64 y.r)).setCell ⟨b,18,none⟩ (.int .i64 y.g)).setCell ⟨b,19,none⟩ (.int .i64 y.n)).setCell ⟨b,20,none⟩ (.int .i64 y.o)).setCell ⟨b,21,none⟩ v1):=by
 refine ⟨?_,((((((Kept.refl (fun k=>k=b) w).setCell _ _ (.inl rfl)).setCell _ _ (.inl rfl)).setCell _ _ (.inl rfl)).setCell _ _ (.inl rfl)).setCell _ _ (.inl rfl))⟩
 have:=(((((h.set 17 (.int .u64 y.r)).set 18 (.int .i64 y.g)).set 19 (.int .i64 y.n)).set 20 (.int .i64 y.o)).set 21 v1)
 simpa [stB] using this
theorem st_lanes {w:World} {b:Nat} {s:St} {v u:Value} (h:Blk w b 34 (stB s v u)) (F:List Ln) (v1:Value) :
  Blk (w.setCell ⟨b,21,none⟩ v1) b 34 (stB { s with x:=⟨s.x.r,s.x.g,s.x.n,s.x.o,F⟩ } v1 u)
  ∧ Kept (fun k=>k=b) w (w.setCell ⟨b,21,none⟩ v1):=by
 refine ⟨?_,((Kept.refl (fun k=>k=b) w).setCell _ _ (.inl rfl))⟩
 have:=(h.set 21 v1)
 simpa [stB] using this
theorem st_run {w:World} {b:Nat} {s:St} {v u:Value} (h:Blk w b 34 (stB s v u)) (L:List Tk) (u1:Value) :
  Blk (w.setCell ⟨b,22,none⟩ u1) b 34 (stB { s with run:=L } v u1)
  ∧ Kept (fun k=>k=b) w (w.setCell ⟨b,22,none⟩ u1):=by
 refine ⟨?_,((Kept.refl (fun k=>k=b) w).setCell _ _ (.inl rfl))⟩
 have:=(h.set 22 u1)
 simpa [stB] using this
theorem st_lim {w:World} {b:Nat} {s:St} {v u:Value} (h:Blk w b 34 (stB s v u)) (n:Int) :
  Blk (w.setCell ⟨b,11,none⟩ (.int .i64 n)) b 34 (stB { s with lim:=n } v u)
  ∧ Kept (fun k=>k=b) w (w.setCell ⟨b,11,none⟩ (.int .i64 n)):=by
 refine ⟨?_,((Kept.refl (fun k=>k=b) w).setCell _ _ (.inl rfl))⟩
 have:=(h.set 11 (.int .i64 n))
 simpa [stB] using this
theorem st_lv {w:World} {b:Nat} {s:St} {v u:Value} (h:Blk w b 34 (stB s v u)) (l:Lv) (q:Bool) :
  Blk (((((((((((w.setCell ⟨b,0,none⟩ (.string l.name)).setCell ⟨b,1,none⟩ (.int .i64 l.kind)).setCell ⟨b,2,none⟩ (.int .i64 l.shares)).setCell ⟨b,3,none⟩ (.int .i64 l.lend)).setCell ⟨b,4,none⟩ (.int .i64 l.borrow)).setCell ⟨b,5,none⟩ (.int .i64 l.queues)).setCell ⟨b,6,none⟩ (.int .i64 l.hand)).setCell ⟨b,7,none⟩ (.int .i64 l.length)).setCell ⟨b,8,none⟩ (.int .i64 l.wait)).setCell ⟨b,9,none⟩ (.int .i64 l.guess)).setCell ⟨b,10,none⟩ (.bool q)) b 34 (stB { s with lv:=l,q:=q } v u)
  ∧ Kept (fun k=>k=b) w (((((((((((w.setCell ⟨b,0,none⟩ (.string l.name)).setCell ⟨b,1,none⟩ (.int .i64 l.kind)).setCell ⟨b,2,none⟩ (.int .i64 l.shares)).setCell ⟨b,3,none⟩ (.int .i64 l.lend)).setCell ⟨b,4,none⟩ (.int .i64 l.borrow)).setCell ⟨b,5,none⟩ (.int .i64 l.queues)).setCell ⟨b,6,none⟩ (.int .i64 l.hand)).setCell ⟨b,7,none⟩ (.int .i64 l.length)).setCell ⟨b,8,none⟩ (.int .i64 l.wait)).setCell ⟨b,9,none⟩ (.int .i64 l.guess)).setCell ⟨b,10,none⟩ (.bool q)):=by
 refine ⟨?_,((((((((((((Kept.refl (fun k=>k=b) w).setCell _ _ (.inl rfl)).setCell _ _ (.inl rfl)).setCell _ _ (.inl rfl)).setCell _ _ (.inl rfl)).setCell _ _ (.inl rfl)).setCell _ _ (.inl rfl)).setCell _ _ (.inl rfl)).setCell _ _ (.inl rfl)).setCell _ _ (.inl rfl)).setCell _ _ (.inl rfl)).setCell _ _ (.inl rfl))⟩
 have:=(((((((((((h.set 0 (.string l.name)).set 1 (.int .i64 l.kind)).set 2 (.int .i64 l.shares)).set 3 (.int .i64 l.lend)).set 4 (.int .i64 l.borrow)).set 5 (.int .i64 l.queues)).set 6 (.int .i64 l.hand)).set 7 (.int .i64 l.length)).set 8 (.int .i64 l.wait)).set 9 (.int .i64 l.guess)).set 10 (.bool q))
 simpa [stB] using this
theorem Blk.put {w:World} {b t:Nat} {cs:Array Value} (h:Blk w b t cs) {vs:List Value} (hl:vs.length=cs.size):Blk (w.setCells b 0 vs) b t vs.toArray∧Kept (fun k=>k=b) w (w.setCells b 0 vs):=by
 obtain ⟨c',h1,h2,h3,h4,h5⟩:=h.sets vs 0
 have:c'=vs.toArray:=by
  apply Array.ext_getElem?
  intro j
  by_cases c:j<vs.length
  ·have:=h4 j c (by omega)
   rw [Nat.zero_add] at this
   rw [this,List.getElem?_toArray]
  ·rw [Array.getElem?_eq_none (by omega),List.getElem?_toArray,List.getElem?_eq_none (by omega)]
 rw [this] at h1
 exact ⟨h1,h5⟩
theorem st_one (s:St) (a:Option Addr) (n c:Nat) (b:Option Addr) (m d:Nat):(stB s (.slice a n c) (.slice b m d)).all (·.oneCell')=true:=by
 unfold stB
 simp [Value.oneCell']
theorem Blk.there {w:World} {b t:Nat} {cs:Array Value} (h:Blk w b t cs) {n:Nat} (hn:n≤cs.size):w.there b 0 n:=fun j hj=>by
 rw [Nat.zero_add]
 exact ⟨by rw [h.cell,Array.getElem?_eq_getElem (by omega)];rfl,h.frozen j⟩
theorem exec_loadSt {oi:Oper} {a:Act} {w:World} (x:Operand) (ho:oi.op=.load 34 x) (g:Nat) (hx:a.eval x=.pointer (some ⟨g,0,none⟩)) (cs:Array Value) (hb:Blk w g 34 cs) (hz:cs.size=23) :
  (execOp a.eval oi).run Tryz.prog w=.ok (.value (.agg cs)) w:=by
 unfold execOp
 simp only [ho,hx,Instr.loadAt,Instr.sureAddr,Sem.run_bind,Sem.run_pure,Result.andThen_ok,run_loadVar_row w g 34 34 cs (0,0) _ hb Tryz.underlying34 rfl (by rw [hz];kernel_rfl)]
theorem wp_loadSt {o:Oper} {a:Act} {w:World} {K:Act→World→Prop} {Q:Exit→Act→World→Prop} (x:Operand) (ho:o.op=.load 34 x) (g:Nat) (hx:a.eval x=.pointer (some ⟨g,0,none⟩)) (cs:Array Value) (hb:Blk w g 34 cs) (hz:cs.size=23)
  (h:K (a.put o.dst (.agg cs)) w):o.wp Tryz.prog a w K Q :=
 wp_load_row 34 x ho g hx 34 cs (0,0) _ hb Tryz.underlying34 rfl (by rw [hz];kernel_rfl) h
theorem wpl_loadSt {ops:Array Oper} {rest:List Oper} {o:Oper} {a:Act} {w:World} {Q:Exit→Act→World→Prop} (hgd:o.guard=none) (x:Operand) (ho:o.op=.load 34 x) (g:Nat) (hx:a.eval x=.pointer (some ⟨g,0,none⟩)) (cs:Array Value) (hb:Blk w g 34 cs) (hz:cs.size=23)
  (h:wpList Tryz.prog ops Q rest (a.put o.dst (.agg cs)) w):wpList Tryz.prog ops Q (o :: rest) a w :=
 wpList_plain hgd fun _ hK=>wp_loadSt x ho g hx cs hb hz (hK _ _ h)
theorem wp_storeSt {o:Oper} {a:Act} {w:World} {K:Act→World→Prop} {Q:Exit→Act→World→Prop} (x y:Operand) (ho:o.op=.store 34 x y) (g:Nat) (hx:a.eval x=.pointer (some ⟨g,0,none⟩)) (cs old:Array Value) (hy:a.eval y=.agg cs) (hb:Blk w g 34 old) (hz:old.size=23) (hz':cs.size=23) (h1:cs.all (·.oneCell')=true)
  (h:∀ w',Blk w' g 34 cs→Kept (fun k=>k=g) w w'→K (a.put o.dst undef) w'):o.wp Tryz.prog a w K Q:=by
 refine wp_store_mid 34 x y ho g 0 cs hx hy (hb.there (by rw [hz,hz'];exact Nat.le_refl _)) (by rw [hz'];kernel_rfl) h1 ?_
 obtain ⟨h2,h3⟩:=hb.put (vs:=cs.toList) (by rw [hz,Array.length_toList,hz'])
 exact h _ h2 h3
theorem wpl_storeSt {ops:Array Oper} {rest:List Oper} {o:Oper} {a:Act} {w:World} {Q:Exit→Act→World→Prop} (hgd:o.guard=none) (x y:Operand) (ho:o.op=.store 34 x y) (g:Nat) (hx:a.eval x=.pointer (some ⟨g,0,none⟩)) (cs old:Array Value) (hy:a.eval y=.agg cs) (hb:Blk w g 34 old) (hz:old.size=23) (hz':cs.size=23) (h1:cs.all (·.oneCell')=true)
  (h:∀ w',Blk w' g 34 cs→Kept (fun k=>k=g) w w'→wpList Tryz.prog ops Q rest (a.put o.dst undef) w'):wpList Tryz.prog ops Q (o :: rest) a w :=
 wpList_plain hgd fun _ hK=>wp_storeSt x y ho g hx cs old hy hb hz hz' h1 fun w' b k=>hK _ _ (h w' b k)
theorem step_storeSt {ops:Array Oper} {o:Oper} {a:Act} {w:World} {K:Act→World→Prop} {Q:Exit→Act→World→Prop} {E:Prop} (hgd:o.guard=none) (x y:Operand) (ho:o.op=.store 34 x y) (g:Nat) (hx:a.eval x=.pointer (some ⟨g,0,none⟩)) (cs old:Array Value) (hy:a.eval y=.agg cs) (hb:Blk w g 34 old) (hz:old.size=23) (hz':cs.size=23) (h1:cs.all (·.oneCell')=true)
  (h:∀ w',Blk w' g 34 cs→Kept (fun k=>k=g) w w'→K (a.put o.dst undef) w') :
  if Region.wanted o (yielded ops a.tmps)=true then Oper.wp Tryz.prog o a w K Q else E:=by
 have hw:Region.wanted o (yielded ops a.tmps)=true:=by simp [Region.wanted,hgd]
 rw [if_pos hw]
 exact wp_storeSt x y ho g hx cs old hy hb hz hz' h1 h
theorem resSt49 (tmps:Array Value) (w:World) (g:Nat) {cs:Array Value} (hz:cs.size=23) (ht:tmps[4]?.getD undef=.pointer (some ⟨g,0,none⟩)) (h:Blk w g 34 cs) :
  (results Tryz.f48 tmps).run Tryz.prog w=.ok (.agg cs) w :=
 results_cell_row Tryz.results48 tmps w g 34 cs (0,0) _ (by simpa using ht) h Tryz.underlying34 rfl (by rw [hz];kernel_rfl)
theorem resSt39 (tmps:Array Value) (w:World) (g:Nat) {cs:Array Value} (hz:cs.size=23) (ht:tmps[2]?.getD undef=.pointer (some ⟨g,0,none⟩)) (h:Blk w g 34 cs) :
  (results Tryz.f35 tmps).run Tryz.prog w=.ok (.agg cs) w :=
 results_cell_row Tryz.results35 tmps w g 34 cs (0,0) _ (by simpa using ht) h Tryz.underlying34 rfl (by rw [hz];kernel_rfl)
theorem resSt7 (tmps:Array Value) (w:World) (g:Nat) {cs:Array Value} (hz:cs.size=23) (ht:tmps[2]?.getD undef=.pointer (some ⟨g,0,none⟩)) (h:Blk w g 34 cs) :
  (results Tryz.f10 tmps).run Tryz.prog w=.ok (.agg cs) w :=
 results_cell_row Tryz.results10 tmps w g 34 cs (0,0) _ (by simpa using ht) h Tryz.underlying34 rfl (by rw [hz];kernel_rfl)
theorem resSt8 (tmps:Array Value) (w:World) (g:Nat) {cs:Array Value} (hz:cs.size=23) (ht:tmps[2]?.getD undef=.pointer (some ⟨g,0,none⟩)) (h:Blk w g 34 cs) :
  (results Tryz.f11 tmps).run Tryz.prog w=.ok (.agg cs) w :=
 results_cell_row Tryz.results11 tmps w g 34 cs (0,0) _ (by simpa using ht) h Tryz.underlying34 rfl (by rw [hz];kernel_rfl)
theorem resSt9 (tmps:Array Value) (w:World) (g:Nat) {cs:Array Value} (hz:cs.size=23) (ht:tmps[2]?.getD undef=.pointer (some ⟨g,0,none⟩)) (h:Blk w g 34 cs) :
  (results Tryz.f6 tmps).run Tryz.prog w=.ok (.agg cs) w :=
 results_cell_row Tryz.results6 tmps w g 34 cs (0,0) _ (by simpa using ht) h Tryz.underlying34 rfl (by rw [hz];kernel_rfl)
theorem resSt27 (tmps:Array Value) (w:World) (g:Nat) {cs:Array Value} (hz:cs.size=23) (ht:tmps[6]?.getD undef=.pointer (some ⟨g,0,none⟩)) (h:Blk w g 34 cs) :
  (results Tryz.f21 tmps).run Tryz.prog w=.ok (.agg cs) w :=
 results_cell_row Tryz.results21 tmps w g 34 cs (0,0) _ (by simpa using ht) h Tryz.underlying34 rfl (by rw [hz];kernel_rfl)
theorem resSt33 (tmps:Array Value) (w:World) (g:Nat) {cs:Array Value} (hz:cs.size=23) (ht:tmps[6]?.getD undef=.pointer (some ⟨g,0,none⟩)) (h:Blk w g 34 cs) :
  (results Tryz.f22 tmps).run Tryz.prog w=.ok (.agg cs) w :=
 results_cell_row Tryz.results22 tmps w g 34 cs (0,0) _ (by simpa using ht) h Tryz.underlying34 rfl (by rw [hz];kernel_rfl)
theorem resSt19 (tmps:Array Value) (w:World) (g:Nat) {cs:Array Value} (hz:cs.size=23) (ht:tmps[6]?.getD undef=.pointer (some ⟨g,0,none⟩)) (h:Blk w g 34 cs) :
  (results Tryz.f7 tmps).run Tryz.prog w=.ok (.tuple #[.agg cs,tmps[7]?.getD undef]) w:=by
 simp [results,Tryz.results7,ht,asAddr,run_loadVar_row w g 34 34 cs (0,0) _ h Tryz.underlying34 rfl (by rw [hz];kernel_rfl)]
theorem resSt38 (tmps:Array Value) (w:World) (g:Nat) {cs:Array Value} (hz:cs.size=23) (ht:tmps[6]?.getD undef=.pointer (some ⟨g,0,none⟩)) (h:Blk w g 34 cs) :
  (results Tryz.f33 tmps).run Tryz.prog w=.ok (.tuple #[.agg cs,tmps[7]?.getD undef]) w:=by
 simp [results,Tryz.results33,ht,asAddr,run_loadVar_row w g 34 34 cs (0,0) _ h Tryz.underlying34 rfl (by rw [hz];kernel_rfl)]
theorem resSt20 (tmps:Array Value) (w:World) (g:Nat) {cs:Array Value} (hz:cs.size=23) (ht:tmps[2]?.getD undef=.pointer (some ⟨g,0,none⟩)) (h:Blk w g 34 cs) :
  (results Tryz.f12 tmps).run Tryz.prog w=.ok (.tuple #[.agg cs,tmps[3]?.getD undef]) w:=by
 simp [results,Tryz.results12,ht,asAddr,run_loadVar_row w g 34 34 cs (0,0) _ h Tryz.underlying34 rfl (by rw [hz];kernel_rfl)]
theorem resSt26 (tmps:Array Value) (w:World) (g:Nat) {cs:Array Value} (hz:cs.size=23) (ht:tmps[4]?.getD undef=.pointer (some ⟨g,0,none⟩)) (h:Blk w g 34 cs) :
  (results Tryz.f19 tmps).run Tryz.prog w=.ok (.tuple #[.agg cs,tmps[5]?.getD undef]) w:=by
 simp [results,Tryz.results19,ht,asAddr,run_loadVar_row w g 34 34 cs (0,0) _ h Tryz.underlying34 rfl (by rw [hz];kernel_rfl)]
theorem resSt28 (tmps:Array Value) (w:World) (g:Nat) {cs:Array Value} (hz:cs.size=23) (ht:tmps[6]?.getD undef=.pointer (some ⟨g,0,none⟩)) (h:Blk w g 34 cs) :
  (results Tryz.f8 tmps).run Tryz.prog w=.ok (.tuple #[.agg cs,tmps[7]?.getD undef]) w:=by
 simp [results,Tryz.results8,ht,asAddr,run_loadVar_row w g 34 34 cs (0,0) _ h Tryz.underlying34 rfl (by rw [hz];kernel_rfl)]
theorem resSt29 (tmps:Array Value) (w:World) (g:Nat) {cs:Array Value} (hz:cs.size=23) (ht:tmps[2]?.getD undef=.pointer (some ⟨g,0,none⟩)) (h:Blk w g 34 cs) :
  (results Tryz.f13 tmps).run Tryz.prog w=.ok (.tuple #[.agg cs,tmps[3]?.getD undef]) w:=by
 simp [results,Tryz.results13,ht,asAddr,run_loadVar_row w g 34 34 cs (0,0) _ h Tryz.underlying34 rfl (by rw [hz];kernel_rfl)]
theorem resSt32 (tmps:Array Value) (w:World) (g:Nat) {cs:Array Value} (hz:cs.size=23) (ht:tmps[4]?.getD undef=.pointer (some ⟨g,0,none⟩)) (h:Blk w g 34 cs) :
  (results Tryz.f20 tmps).run Tryz.prog w=.ok (.tuple #[.agg cs,tmps[5]?.getD undef]) w:=by
 simp [results,Tryz.results20,ht,asAddr,run_loadVar_row w g 34 34 cs (0,0) _ h Tryz.underlying34 rfl (by rw [hz];kernel_rfl)]
theorem resSt24 (tmps:Array Value) (w:World) (g q:Nat) {cs ct:Array Value} (hz:cs.size=23) (hz2:ct.size=5) (ht:tmps[4]?.getD undef=.pointer (some ⟨g,0,none⟩)) (hq:tmps[5]?.getD undef=.pointer (some ⟨q,0,none⟩)) (h:Blk w g 34 cs) (k:Blk w q 36 ct) :
  (results Tryz.f15 tmps).run Tryz.prog w=.ok (.tuple #[.agg cs,.agg ct,tmps[6]?.getD undef]) w:=by
 simp [results,Tryz.results15,ht,hq,asAddr,run_loadVar_row w g 34 34 cs (0,0) _ h Tryz.underlying34 rfl (by rw [hz];kernel_rfl),run_loadVar_row w q 36 36 ct (0,0) _ k Tryz.underlying36 rfl (by rw [hz2];kernel_rfl)]
theorem resSt25 (tmps:Array Value) (w:World) (g q:Nat) {cs ct:Array Value} (hz:cs.size=23) (hz2:ct.size=5) (ht:tmps[4]?.getD undef=.pointer (some ⟨g,0,none⟩)) (hq:tmps[5]?.getD undef=.pointer (some ⟨q,0,none⟩)) (h:Blk w g 34 cs) (k:Blk w q 36 ct) :
  (results Tryz.f17 tmps).run Tryz.prog w=.ok (.tuple #[.agg cs,.agg ct,tmps[6]?.getD undef]) w:=by
 simp [results,Tryz.results17,ht,hq,asAddr,run_loadVar_row w g 34 34 cs (0,0) _ h Tryz.underlying34 rfl (by rw [hz];kernel_rfl),run_loadVar_row w q 36 36 ct (0,0) _ k Tryz.underlying36 rfl (by rw [hz2];kernel_rfl)]
theorem resSt30 (tmps:Array Value) (w:World) (g q:Nat) {cs ct:Array Value} (hz:cs.size=23) (hz2:ct.size=5) (ht:tmps[4]?.getD undef=.pointer (some ⟨g,0,none⟩)) (hq:tmps[5]?.getD undef=.pointer (some ⟨q,0,none⟩)) (h:Blk w g 34 cs) (k:Blk w q 36 ct) :
  (results Tryz.f16 tmps).run Tryz.prog w=.ok (.tuple #[.agg cs,.agg ct,tmps[6]?.getD undef]) w:=by
 simp [results,Tryz.results16,ht,hq,asAddr,run_loadVar_row w g 34 34 cs (0,0) _ h Tryz.underlying34 rfl (by rw [hz];kernel_rfl),run_loadVar_row w q 36 36 ct (0,0) _ k Tryz.underlying36 rfl (by rw [hz2];kernel_rfl)]
theorem resSt31 (tmps:Array Value) (w:World) (g q:Nat) {cs ct:Array Value} (hz:cs.size=23) (hz2:ct.size=5) (ht:tmps[4]?.getD undef=.pointer (some ⟨g,0,none⟩)) (hq:tmps[5]?.getD undef=.pointer (some ⟨q,0,none⟩)) (h:Blk w g 34 cs) (k:Blk w q 36 ct) :
  (results Tryz.f18 tmps).run Tryz.prog w=.ok (.tuple #[.agg cs,.agg ct,tmps[6]?.getD undef]) w:=by
 simp [results,Tryz.results18,ht,hq,asAddr,run_loadVar_row w g 34 34 cs (0,0) _ h Tryz.underlying34 rfl (by rw [hz];kernel_rfl),run_loadVar_row w q 36 36 ct (0,0) _ k Tryz.underlying36 rfl (by rw [hz2];kernel_rfl)]
theorem Blk.stx {w:World} {b:Nat} {s:St} {v u:Value} (h:Blk w b 34 (stB s v u)) :
  (w.cell? ⟨b,17,none⟩=some (.int .u64 s.x.r)∧w.cell? ⟨b,18,none⟩=some (.int .i64 s.x.g)∧w.cell? ⟨b,19,none⟩=some (.int .i64 s.x.n)∧w.cell? ⟨b,20,none⟩=some (.int .i64 s.x.o)∧w.cell? ⟨b,21,none⟩=some v)
  ∧ w.frozen? ⟨b,17,none⟩=false∧w.frozen? ⟨b,18,none⟩=false∧w.frozen? ⟨b,19,none⟩=false∧w.frozen? ⟨b,20,none⟩=false∧w.frozen? ⟨b,21,none⟩=false :=
 ⟨⟨h.cellv 17 rfl,h.cellv 18 rfl,h.cellv 19 rfl,h.cellv 20 rfl,h.cellv 21 rfl⟩,h.frozen 17,h.frozen 18,h.frozen 19,h.frozen 20,h.frozen 21⟩
theorem Blk.str {w:World} {b:Nat} {s:St} {v u:Value} (h:Blk w b 34 (stB s v u)):w.cell? ⟨b,22,none⟩=some u∧w.frozen? ⟨b,22,none⟩=false:=⟨h.cellv 22 rfl,h.frozen 22⟩
set_option maxRecDepth 20000 in
set_option maxHeartbeats 1000000 in
theorem llate_ok (s:Int) (a:Option Addr) (c:Nat) (L:List Tk) (now:Int) (w:World) (h:TkR w a L) (hl:L.length≤2000) :
  Calls Tryz.prog 50 #[.agg #[.int .u64 s,.slice a L.length c],.int .i64 now] w fun e w'=>∃ v,e=.returned v∧OwnT w' w.heap.size v (lateTo now L L.length)∧Below w.heap.size w w':=by
 obtain ⟨i0,hi,hz0,hz1,hz2⟩:=info_parts Tryz.info36
 obtain ⟨w1,hw1⟩:∃ w1,w1=w.alloc (.cells #[.int .u64 s,.slice a L.length c] 62):=⟨_,rfl⟩
 have B:Below w.heap.size w w1:=by rw [hw1];exact alloc_below _ _
 have N1:Blk w1 w.heap.size 62 (lnA s (.slice a L.length c)):=by rw [hw1];exact Blk.new _ _ _
 obtain ⟨⟨c0,c1⟩,-⟩:=N1.lane
 have H:Hd (TkR w1 a L∧Below w.heap.size w w1):=⟨h.carry B,B⟩
 obtain ⟨n,hn⟩:∃ n,L.length=n:=⟨_,rfl⟩
 have HL:Hd (L.length=n):=⟨hn⟩
 rw [hn] at hl c1 hw1 ⊢
 clear hn N1 B h
 go_enter Tryz.func50,Tryz.ntmps50
 go_upto_region 1 with fail
 rw [←hw1]
 clear hw1
 go_wp2
 clear c0 c1
 go_loopw [5,11] (fun v i wr=>∃ k:Nat,k≤n∧OwnT wr w1.heap.size v (lateTo now L k)∧i=.int .i64 k∧Below w1.heap.size w1 wr) (fun _ i _=>n - (intOf i).toNat)
 case atStart=>exact ⟨0,Nat.zero_le _,World.ownsRow_nil _ _ _ _,rfl,Below.refl _ _⟩
 case round =>
  obtain ⟨k,hk,hv,rfl,p3⟩:=hrel
  by_cases hlt:k<n
  ·obtain ⟨b1,o1,rfl,hb1,d0,d1,d2,d3,d4⟩:=(H.out.1.carry p3).at (k:=k) (by rw [HL.out];exact hlt)
   have ll:=lateTo_len now L k
   have bq:Hd (Below w1.heap.size w1 (wr.alloc (.cells (tkA (gt L k)) 36))):=⟨p3.alloc p3.size _⟩
   have oq:Hd (OwnT (wr.alloc (.cells (tkA (gt L k)) 36)) w1.heap.size _ (lateTo now L k)):=⟨World.ownsRow.alloc hv _⟩
   have nq:Hd (Blk (wr.alloc (.cells (tkA (gt L k)) 36)) wr.heap.size 36 (tkA (gt L k))):=⟨Blk.new _ _ _⟩
   have hsz:=p3.size
   obtain ⟨w4,hw4⟩:∃ w4,w4=wr.alloc (.cells (tkA (gt L k)) 36):=⟨_,rfl⟩
   have hw4':Hd (w4.heap.size=wr.heap.size+1):=⟨by rw [hw4];simp⟩
   rw [←hw4] at bq oq nq
   have hw5:=hw4
   unfold tkA at hw5
   clear p3 hw4 hv
   by_cases u:(gt L k).unt≤now
   ·have E1:Hd (lateTo now L (k+1)=lateTo now L k ++ [gt L k]):=⟨lateTo_yes u⟩
    have NW:Hd (∀ W:World,(∀ j u,(tkC (gt L k))[j]?=some u→(W.alloc (.cells (tkA (gt L k)) 36)).cell? ((⟨W.heap.size,0,none⟩:Addr).add j)=some u)):=⟨fun W=>one_newK W _⟩
    have OC:Hd (∀ u∈tkC (gt L k),u.oneCell'=true):=⟨one_cellK _⟩
    generalize hT:gt L k=z at *
    obtain ⟨z0,z1,z2,z3,z4⟩:=z
    simp only [tkA,tkC] at *
    go_upto_region 5 with fail
    rw [←hw5]
    clear hw5 d0 d1 d2 d3 d4
    obtain ⟨⟨d0,d1,d2,d3,d4⟩,-⟩:=Blk.five (t:=⟨z0,z1,z2,z3,z4⟩) nq.out
    simp only at d0 d1 d2 d3 d4
    go_wp2_with (at_builtin;refine wpList_append_lies _ rfl (.tmp 19) (.tmp 21) 32 rfl w1.heap.size 36 i0 (.agg #[.int .i64 0,.int .i64 0,.int .i64 0,.int .i64 0,.int .i64 0]) 5 40 Tryz.underlying32 hi hz0 hz1 hz2 rfl (by decide) _ (lateTo now L k).length (tkCs (lateTo now L k)) rfl (World.ownsRow.alloc oq.out _) ⟨w4.heap.size,0,none⟩ 1 1 [.int .i64 z0,.int .i64 z1,.int .i64 z2,.int .i64 z3,.int .i64 z4] rfl rfl (NW.out _) OC.out (by decide) (by unfold maxLen;omega) (by omega) (by simp;have:=hw4'.out;omega) _ rfl ?_;intro g1 cap1 w5 hown1 hgrow1 hat1 hlt1)
    have ho:OwnT w5 w1.heap.size _ (lateTo now L k ++ [(⟨z0,z1,z2,z3,z4⟩:Tk)]):=OwnT.add hown1
    have b5:Below w1.heap.size w1 w5:=(bq.out.alloc bq.out.size _).grown hgrow1 (by simp;have:=bq.out.size;omega) (fun q e=>(oq.out.lt q e).1)
    have R:Hd (_∧_):=⟨ho,b5⟩
    clear hown1 hgrow1 hat1 ho b5 d0 d1 d2 d3 d4
    go_wp2
    go_roundw
    case rel=>exact ⟨k+1,by omega,by rw [E1.out];exact R.out.1,by go_num,R.out.2⟩
    case measure=>simp [intOf];omega
   ·have E1:Hd (lateTo now L (k+1)=lateTo now L k):=⟨lateTo_no u⟩
    generalize hT:gt L k=z at *
    obtain ⟨z0,z1,z2,z3,z4⟩:=z
    simp only [tkA] at *
    go_upto_region 5 with fail
    rw [←hw5]
    clear hw5 d0 d1 d2 d3 d4
    obtain ⟨⟨d0,d1,d2,d3,d4⟩,-⟩:=Blk.five (t:=⟨z0,z1,z2,z3,z4⟩) nq.out
    simp only at d0 d1 d2 d3 d4
    go_wp2
    go_roundw
    case rel=>exact ⟨k+1,by omega,by rw [E1.out];exact oq.out,by go_num,bq.out⟩
    case measure=>simp [intOf];omega
  ·obtain rfl:k=n:=by omega
   have R:Hd (_∧_):=⟨hv,p3⟩
   clear hv p3
   go_wp2
   go_ret
   exact ⟨_,rfl,(show OwnT _ _ _ _ from ⟨R.out.1.1,R.out.1.2.imp id (fun ⟨g,cap,cur,e,hb,r⟩=>⟨g,cap,cur,e,Nat.le_trans H.out.2.size hb,r⟩)⟩),H.out.2.trans (R.out.2.mono H.out.2.size)⟩
theorem resFa53 (tmps:Array Value) (w:World) (b:Nat) {r g n o:Int} {a:Option Addr} {l c:Nat} (ht:tmps[2]?.getD undef=.pointer (some ⟨b,0,none⟩)) (h:Blk w b 31 (faA r g n o (.slice a l c))) :
  (results Tryz.f53 tmps).run Tryz.prog w=.ok (.agg #[.int .u64 r,.int .i64 g,.int .i64 n,.int .i64 o,.slice a l c]) w:=by
 obtain ⟨⟨c0,c1,c2,c3,c4⟩,-⟩:=h.fair
 simp [results,Tryz.results53,go_sem,ht,c0,c1,c2,c3,c4]
set_option maxRecDepth 20000 in
set_option maxHeartbeats 1000000 in
theorem ltrimmed_ok (S:Nat→Prop) (r g nn o:Int) (a:Option Addr) (c:Nat) (F:List Ln) (w:World) (hst:StR S w a c F) (hf:Few F) :
  Calls Tryz.prog 53 #[.agg #[.int .u64 r,.int .i64 g,.int .i64 nn,.int .i64 o,.slice a F.length c]] w fun e w'=>(∃ v,e=.returned v∧FaS S w' r g nn o (trm F o) v)∧Below w.heap.size w w':=by
 have h:=hst.read (Kept.refl _ _)
 have HW:Hd (StR S w a c F):=⟨hst⟩
 clear hst
 obtain ⟨w2,hw2⟩:∃ w2,w2=(w.alloc (.cells #[.int .u64 r,.int .i64 g,.int .i64 nn,.int .i64 o,.slice a F.length c] 31)).alloc (.cells #[.int .u64 0,.int .i64 0,.int .i64 0,.int .i64 0,.slice none 0 0] 31):=⟨_,rfl⟩
 have BX:=boxes w 31 31 #[.int .u64 r,.int .i64 g,.int .i64 nn,.int .i64 o,.slice a F.length c] #[.int .u64 0,.int .i64 0,.int .i64 0,.int .i64 0,.slice none 0 0]
 rw [←hw2] at BX
 obtain ⟨B,N1,N2⟩:=BX
 have HF:Hd (Few F):=⟨hf⟩
 have hl:=hf.len
 obtain ⟨⟨x0,x1,x2,x3,x4⟩,-⟩:=Blk.fair N1
 obtain ⟨n,hn⟩:∃ n,F.length=n:=⟨_,rfl⟩
 have HL:Hd (F.length=n):=⟨hn⟩
 have HN:Hd (LsR w2 a c F∧Below w.heap.size w w2∧Blk w2 w.heap.size 31 (faA r g nn o (.slice a n c))∧Blk w2 (w.heap.size+1) 31 (faA 0 0 0 0 (.slice none 0 0))):=⟨h.carry B,B,by rw [←hn];exact N1,N2⟩
 rw [hn] at hl hw2 x4 ⊢
 clear hn N1 N2 B h hf
 go_enter Tryz.func53,Tryz.ntmps53
 go_upto_region 1 with fail
 rw [←hw2]
 clear hw2
 have hc0:n≤c:=by have:=HN.out.1.1;have:=HL.out;omega
 have hc1:=HN.out.1.2.1
 obtain ⟨A,hA⟩:∃ A,A=w.heap.size:=⟨_,rfl⟩
 have HA:Hd (A=w.heap.size):=⟨hA⟩
 rw [←hA] at HN x0 x1 x2 x3 x4 ⊢
 clear hA
 have h2A:A+2≤w2.heap.size:=by have:=HN.out.2.2.2.lt;omega
 go_wp2
 go_loopw [3] (fun i wr=>∃ k:Nat,k≤n∧i=.int .i64 k∧Hd (trN F o n=trN F o k)∧wr=w2) (fun i _=>(intOf i).toNat)
 case atStart=>exact ⟨n,Nat.le_refl _,rfl,⟨rfl⟩,rfl⟩
 case round =>
  obtain ⟨k,hk,rfl,HT,rfl⟩:=hrel
  have LN:Hd (∀ W,Below w.heap.size w W→trN F o k=k→FaS S W r g nn o (trm F o) (.agg #[.int .u64 r,.int .i64 g,.int .i64 nn,.int .i64 o,.slice a k c])):=⟨fun W q e=>by
   have e1:(trm F o).length=k:=by rw [trm_len,HL.out,HT.out,e]
   exact ⟨a,c,by rw [e1],(HW.out.next (Kept.of_below q _)).take _⟩⟩
  cases a with
  | none =>
   obtain rfl:c=0:=hc1 rfl
   obtain rfl:n=0:=by omega
   obtain rfl:k=0:=by omega
   clear hc1 hc0
   obtain ⟨SS,hb2,NA,NR⟩:=HN.out
   obtain ⟨q1,k1⟩:=fair_lanes NA (.slice none 0 0)
   have NR':=NR.kept k1 (by omega)
   obtain ⟨q2,k2⟩:=fair_set NR' r g nn o (.slice none 0 0)
   obtain ⟨⟨y0,y1,y2,y3,y4⟩,yf0,yf1,yf2,yf3,yf4⟩:=NR'.fair
   obtain ⟨⟨z0,z1,z2,z3,z4⟩,-⟩:=q1.fair
   obtain ⟨-,xf0,xf1,xf2,xf3,xf4⟩:=NA.fair
   have KK:=(k1.below (B:=A) (by omega) (fun j e=>by omega)).trans (k2.below (B:=A) (by have:=k1.size;omega) (fun j e=>by omega))
   have HE:Hd (_∧_):=⟨q2,hb2.trans KK⟩
   clear SS hb2 NA NR q1 k1 NR' q2 k2 KK HN
   go_wp2_with fail
   refine bodyPost_ret (resFa53 _ _ _ rfl HE.out.1) rfl ?_
   exact ⟨⟨_,rfl,LN.out _ (by rw [←HA.out];exact HE.out.2) rfl⟩,by rw [←HA.out];exact HE.out.2⟩
  | some x =>
   clear hc1
   obtain ⟨SS,hb2,NA,NR⟩:=HN.out
   obtain ⟨q1,k1⟩:=fair_lanes NA (.slice (some x) k c)
   have NR':=NR.kept k1 (by omega)
   obtain ⟨q2,k2⟩:=fair_set NR' r g nn o (.slice (some x) k c)
   obtain ⟨⟨y0,y1,y2,y3,y4⟩,yf0,yf1,yf2,yf3,yf4⟩:=NR'.fair
   obtain ⟨⟨z0,z1,z2,z3,z4⟩,-⟩:=q1.fair
   obtain ⟨-,xf0,xf1,xf2,xf3,xf4⟩:=NA.fair
   have KK:=(k1.below (B:=A) (by omega) (fun j e=>by omega)).trans (k2.below (B:=A) (by have:=k1.size;omega) (fun j e=>by omega))
   have HE:Hd (_∧_):=⟨q2,hb2.trans KK⟩
   by_cases e0:k=0
   ·subst e0
    clear SS hb2 NA NR q1 k1 NR' q2 k2 KK HN
    go_wp2_with fail
    refine bodyPost_ret (resFa53 _ _ _ rfl HE.out.1) rfl ?_
    exact ⟨⟨_,rfl,LN.out _ (by rw [←HA.out];exact HE.out.2) rfl⟩,by rw [←HA.out];exact HE.out.2⟩
   ·obtain ⟨j,rfl⟩:∃ j,k=j+1:=⟨k - 1,by omega⟩
    obtain ⟨b1,o1,a1,c1,e1,hb1,d0,d1,s1⟩:=SS.at (k:=j) (by rw [HL.out];omega)
    have TN:Hd (¬ (o<(j+1:Int)∧(gl F j).L=[])→trN F o (j+1)=j+1):=⟨trN_no⟩
    have TY:Hd (o<(j+1:Int)→(gl F j).L.length=0→trN F o n=trN F o j):=⟨fun h1 h2=>HT.out.trans (trN_yes ⟨h1,List.eq_nil_of_length_eq_zero h2⟩)⟩
    have TE:Hd ((gl F j).L=[]→(gl F j).L.length=0):=⟨fun e=>by rw [e];rfl⟩
    have PN:IntKind.i64.wrap ((j:Int)+1 - 1)=j:=by rw [show (j:Int)+1 - 1=j by omega,IntKind.wrap_i64] <;> omega
    injection e1 with e1
    subst e1
    have hm:=(HF.out.at j).2
    clear SS hb2 NA NR q1 k1 NR' q2 k2 KK
    by_cases e1:o<(j:Int)+1
    ·by_cases e2:(gl F j).L.length=0
     ·rw [e2] at d1
      have HX:Hd (trN F o n=trN F o j):=⟨TY.out e1 e2⟩
      clear TN TY TE e2 LN HE y0 y1 y2 y3 y4 yf0 yf1 yf2 yf3 yf4 z0 z1 z2 z3 z4 xf0 xf1 xf2 xf3 xf4
      go_wp2
      go_roundw
      case rel=>exact ⟨j,by omega,by go_num,HX,by trivial⟩
      case measure=>simp [intOf]
     ·have HX:Hd (trN F o (j+1)=j+1):=⟨TN.out (fun h=>e2 (TE.out h.2))⟩
      clear TN TY TE
      generalize (gl F j).L.length=m at *
      go_wp2_with fail
      refine bodyPost_ret (resFa53 _ _ _ rfl HE.out.1) rfl ?_
      exact ⟨⟨_,rfl,LN.out _ (by rw [←HA.out];exact HE.out.2) HX.out⟩,by rw [←HA.out];exact HE.out.2⟩
    ·have HX:Hd (trN F o (j+1)=j+1):=⟨TN.out (fun h=>e1 h.1)⟩
     clear TN TY TE
     go_wp2_with fail
     refine bodyPost_ret (resFa53 _ _ _ rfl HE.out.1) rfl ?_
     exact ⟨⟨_,rfl,LN.out _ (by rw [←HA.out];exact HE.out.2) HX.out⟩,by rw [←HA.out];exact HE.out.2⟩
theorem rnT_bound (L:List Tk) (k:Nat) (h:k≤2000):0≤rnT L k∧rnT L k≤32000:=by
 have:=rnT_rng L k
 omega
set_option maxRecDepth 20000 in
set_option maxHeartbeats 1000000 in
theorem runs_ok (s:St) (v:Value) (ar:Option Addr) (cr:Nat) (w:World) (hr:SlR w ar cr s.run) (hl:s.run.length≤2000) :
  Calls Tryz.prog 25 #[.agg (stB s v (.slice ar s.run.length cr))] w fun e w'=>e=.returned (.int .i64 (rnA s.run))∧Below w.heap.size w w':=by
 obtain ⟨n,hn⟩:∃ n,s.run.length=n:=⟨_,rfl⟩
 have HL:Hd (s.run.length=n):=⟨hn⟩
 have HA:Hd (rnA s.run=rnT s.run n):=⟨by unfold rnA;rw [hn]⟩
 rw [hn] at hl ⊢
 clear hn
 obtain ⟨w1,hw1⟩:∃ w1,w1=w.alloc (.cells (stB s v (.slice ar n cr)) 34):=⟨_,rfl⟩
 have B:Below w.heap.size w w1:=by rw [hw1];exact alloc_below _ _
 have N1:Blk w1 w.heap.size 34 (stB s v (.slice ar n cr)):=by rw [hw1];exact Blk.new _ _ _
 have HR:Hd (∀ W,Below w.heap.size w W→TkR W ar s.run):=⟨fun W b=>hr.2.2.carry b⟩
 have HB:Hd (Below w.heap.size w w1):=⟨B⟩
 have c22:=N1.str.1
 clear hr N1 B
 go_enter Tryz.func25,Tryz.ntmps25
 go_upto_region 2 with fail
 rw [←hw1]
 clear hw1
 go_wp2
 go_loopw [3,5,9] (fun va _ vi wr=>∃ k:Nat,k≤n∧va=.int .i64 (rnT s.run k)∧vi=.int .i64 k∧Hd (Below w.heap.size w wr)) (fun _ _ vi _=>n - (intOf vi).toNat)
 case atStart=>exact ⟨0,Nat.zero_le _,rfl,rfl,HB⟩
 case round =>
  obtain ⟨k,hk,rfl,rfl,hb⟩:=hrel
  clear HB
  by_cases hlt:k<n
  ·obtain ⟨b,off,rfl,hbl,d0,d1,d2,d3,d4⟩:=(HR.out wr hb.out).at (k:=k) (by rw [HL.out];exact hlt)
   have hs:=rnT_bound s.run k (by omega)
   have HS:Hd (rnT s.run (k+1)=rnT s.run k+min (max (gt s.run k).sts 0) 16):=⟨by
    show rnT s.run k+rsW (gt s.run k)=_
    unfold rsW
    omega⟩
   obtain ⟨w3,hw3⟩:∃ w3,w3=wr.alloc (.cells #[.int .i64 (gt s.run k).id,.int .i64 (gt s.run k).wid,.int .i64 (gt s.run k).sts,.int .i64 (gt s.run k).sin,.int .i64 (gt s.run k).unt] 36):=⟨_,rfl⟩
   have B3:Below wr.heap.size wr w3:=by rw [hw3];exact alloc_below _ _
   have N3:Blk w3 wr.heap.size 36 (tkA (gt s.run k)):=by rw [hw3];exact Blk.new _ _ _
   have HZ:Hd (Below w.heap.size w w3):=⟨hb.out.trans (B3.mono hb.out.size)⟩
   obtain ⟨⟨e0,e1,e2,e3,e4⟩,-⟩:=N3.five
   have i1:(k:Int)<(n:Int):=by omega
   clear N3 B3 hb
   generalize gt s.run k=x at *
   generalize rnT s.run k=acc at *
   go_upto_region 5 with fail
   rw [←hw3]
   clear hw3 e0 e1 e3 e4
   go_wp2
   go_roundw
   case rel=>exact ⟨k+1,by omega,by rw [HS.out],by go_num,HZ⟩
   case measure=>simp [intOf];omega
  ·obtain rfl:k=n:=by omega
   go_wp2 
   go_ret
   exact ⟨by rw [HA.out];rfl,hb.out⟩
set_option maxRecDepth 20000 in
set_option maxHeartbeats 1000000 in
theorem rruns_ok (s:St) (v:Value) (ar:Option Addr) (cr:Nat) (w:World) (hr:SlR w ar cr s.run) (hl:s.run.length≤2000) :
  Calls Tryz.prog 26 #[.agg (stB s v (.slice ar s.run.length cr))] w fun e w'=>e=.returned (.int .i64 (rnA s.run))∧Below w.heap.size w w':=by
 obtain ⟨n,hn⟩:∃ n,s.run.length=n:=⟨_,rfl⟩
 have HL:Hd (s.run.length=n):=⟨hn⟩
 have HA:Hd (rnA s.run=rnT s.run n):=⟨by unfold rnA;rw [hn]⟩
 rw [hn] at hl ⊢
 clear hn
 obtain ⟨w1,hw1⟩:∃ w1,w1=w.alloc (.cells (stB s v (.slice ar n cr)) 34):=⟨_,rfl⟩
 have B:Below w.heap.size w w1:=by rw [hw1];exact alloc_below _ _
 have N1:Blk w1 w.heap.size 34 (stB s v (.slice ar n cr)):=by rw [hw1];exact Blk.new _ _ _
 have HR:Hd (TkR w1 ar s.run∧Below w.heap.size w w1):=⟨hr.2.2.carry B,B⟩
 have c22:=N1.str.1
 clear hr N1 B
 go_enter Tryz.func26,Tryz.ntmps26
 go_upto_region 2 with fail
 rw [←hw1]
 clear hw1
 go_wp2
 go_loopw [3,4,5] (fun va vi _ wr=>∃ k:Nat,k≤n∧va=.int .i64 (rnT s.run k)∧vi=.int .i64 k∧wr=w1) (fun _ vi _ _=>n - (intOf vi).toNat)
 case atStart=>exact ⟨0,Nat.zero_le _,rfl,rfl,rfl⟩
 case round =>
  obtain ⟨k,hk,rfl,rfl,rfl⟩:=hrel
  by_cases hlt:k<n
  ·obtain ⟨b,off,rfl,hbl,d0,d1,d2,d3,d4⟩:=HR.out.1.at (k:=k) (by rw [HL.out];exact hlt)
   have hs:=rnT_bound s.run k (by omega)
   have HS:Hd (rnT s.run (k+1)=rnT s.run k+rsW (gt s.run k)):=⟨rfl⟩
   have HW:Hd (∀ x:Tk,rsW x=max 0 (min x.sts 16)):=⟨fun _=>rfl⟩
   have i1:(k:Int)<(n:Int):=by omega
   clear d0 d1 d3 d4
   by_cases c1:16<(gt s.run k).sts
   ·have HE:Hd (rnT s.run (k+1)=rnT s.run k+16):=⟨by rw [HS.out,HW.out];omega⟩
    clear HS HW
    generalize (gt s.run k).sts=x at *
    generalize rnT s.run k=acc at *
    go_wp2
    go_roundw
    case rel=>exact ⟨k+1,by omega,by rw [HE.out],by go_num,by trivial⟩
    case measure=>simp [intOf];omega
   ·by_cases c2:0<(gt s.run k).sts
    ·have HE:Hd (rnT s.run (k+1)=rnT s.run k+(gt s.run k).sts):=⟨by rw [HS.out,HW.out];omega⟩
     clear HS HW
     generalize (gt s.run k).sts=x at *
     generalize rnT s.run k=acc at *
     go_wp2
     go_roundw
     case rel=>exact ⟨k+1,by omega,by rw [HE.out],by go_num,by trivial⟩
     case measure=>simp [intOf];omega
    ·have HE:Hd (rnT s.run (k+1)=rnT s.run k):=⟨by rw [HS.out,HW.out];omega⟩
     clear HS HW
     generalize (gt s.run k).sts=x at *
     generalize rnT s.run k=acc at *
     go_wp2
     go_roundw
     case rel=>exact ⟨k+1,by omega,by rw [HE.out],by go_num,by trivial⟩
     case measure=>simp [intOf];omega
  ·obtain rfl:k=n:=by omega
   have HB:Hd (Below w.heap.size w _):=⟨HR.out.2⟩
   go_wp2
   go_ret
   exact ⟨by rw [HA.out];rfl,HB.out⟩
end Go.Proofs.YtlgibnmoogbdcaaGreat
