/-
  'nearest', 'Line' and 'What' of the program: the whole search, for every chain of Faults around a number or nothing.
  'What' and 'Of' of the program's faults.
-/
import Derived.Test.YthkdbphgiobcdaaGreatDoorE12
namespace Go.Proofs.YthkdbphgiobcdaaGreatDoor
open Go.RowKit Go.Extern.Stop Go.Stop Go.Extern
theorem near_no {p:Int→ByteArray→Bool} {l:Lk} {ls:List Lk} (h:p l.line l.what=false):near p (l :: ls)=near p ls:=by
 unfold near;rw [h];simp only [Bool.false_eq_true,if_false];cases ls <;> rfl
theorem near_yes {p:Int→ByteArray→Bool} {l:Lk} {ls:List Lk} (h:p l.line l.what=true):near p (l :: ls)=l:=by
 unfold near;rw [h];simp only [if_true]
theorem flt_new (w:World) (x:Int) (y:ByteArray) (z:Value):Flt (w.alloc (.cells #[.int .i64 x,.string y,z] 74)) w.heap.size x y z:=by
 refine ⟨?_,?_,?_,?_,?_,?_⟩ <;> simp
theorem st_new (w:World) (q:Value):St w (((w.alloc (.cells #[q] 33)).alloc (.cells #[.int .i64 0,.string ⟨#[]⟩,.nilIface] 74)).alloc (.cells #[.int .i64 0,.string ⟨#[]⟩,.nilIface] 74)) q 0 ⟨#[]⟩ .nilIface:=by
 have bA:Below w.heap.size w (w.alloc (.cells #[q] 33)):=(Below.refl _ _).alloc (Nat.le_refl _) _
 have cA:(w.alloc (.cells #[q] 33)).cell? ⟨w.heap.size,0,none⟩=some q:=by simp
 have fA:(w.alloc (.cells #[q] 33)).frozen? ⟨w.heap.size,0,none⟩=false:=by simp
 have sA:(w.alloc (.cells #[q] 33)).heap.size=w.heap.size+1:=by simp
 generalize w.alloc (.cells #[q] 33)=wA at *
 have bB:Below wA.heap.size wA (wA.alloc (.cells #[.int .i64 0,.string ⟨#[]⟩,.nilIface] 74)):=(Below.refl _ _).alloc (Nat.le_refl _) _
 have FB:=flt_new wA 0 ⟨#[]⟩ .nilIface
 have sB:(wA.alloc (.cells #[.int .i64 0,.string ⟨#[]⟩,.nilIface] 74)).heap.size=wA.heap.size+1:=by simp
 generalize wA.alloc (.cells #[.int .i64 0,.string ⟨#[]⟩,.nilIface] 74)=wB at *
 have bC:Below wB.heap.size wB (wB.alloc (.cells #[.int .i64 0,.string ⟨#[]⟩,.nilIface] 74)):=(Below.refl _ _).alloc (Nat.le_refl _) _
 have FC:=flt_new wB 0 ⟨#[]⟩ .nilIface
 have sC:(wB.alloc (.cells #[.int .i64 0,.string ⟨#[]⟩,.nilIface] 74)).heap.size=wB.heap.size+1:=by simp
 generalize wB.alloc (.cells #[.int .i64 0,.string ⟨#[]⟩,.nilIface] 74)=wC at *
 have FB':=FB.stays bC (by omega)
 rw [sA] at FB'
 rw [sB,sA] at FC
 exact ⟨bA.trans ((bB.mono (by omega)).trans (bC.mono (by omega))),by omega,
  (bC.cell (p:=⟨w.heap.size,0,none⟩) (by simp only;omega)).trans ((bB.cell (p:=⟨w.heap.size,0,none⟩) (by simp only;omega)).trans cA),
  (bC.frozen (p:=⟨w.heap.size,0,none⟩) (by simp only;omega)).trans ((bB.frozen (p:=⟨w.heap.size,0,none⟩) (by simp only;omega)).trans fA),FB',FC⟩
theorem res26 (tmps:Array Value) (w:World) (b:Nat) (x:Int) (y:ByteArray) (z:Value) (ht:tmps[4]?.getD undef=.pointer (some ⟨b,0,none⟩)) (h:Flt w b x y z) :
  (results Tryz.f34 tmps).run Tryz.prog w=.ok (.agg #[.int .i64 x,.string y,z]) w:=by
 obtain ⟨c0,c1,c2,_,_,_⟩:=h
 simp [results,Tryz.results34,go_sem,ht,c0,c1,c2]
set_option maxHeartbeats 4000000 in
theorem nearest_ok (g:Nat) (p:Int→ByteArray→Bool) (hg:Says g p) (B:Base) (ls:List Lk) (w:World) (he:ET w) :
  Calls Tryz.prog 34 #[val B ls,.func (.func g) #[] #[]] w fun e w'=>(∃ z,e=.returned (.agg #[.int .i64 (near p ls).line,.string (near p ls).what,z]))∧Below w.heap.size w w':=by
 have hmf:∀ (fn:Fn) (first cap:Array Value) (w:World),(Instr.makeFunc fn first cap).run Tryz.prog w=.ok (.func fn first cap) w:=fun _ _ _ _=>rfl
 obtain ⟨eg0,SP⟩:=hg
 have eg:∀ args w,(callFunc g args).run Tryz.prog w=.ok (.enter g args) w:=eg0
 clear eg0
 have ho:=val_one B ls
 obtain ⟨q,hq⟩:∃ q,q=val B ls:=⟨_,rfl⟩
 have HQ:Hd (q=val B ls):=⟨hq⟩
 rw [←hq] at ho ⊢
 clear hq
 obtain ⟨w1,hw1⟩:∃ w1,w1=((w.alloc (.cells #[q] 33)).alloc (.cells #[.int .i64 0,.string ⟨#[]⟩,.nilIface] 74)).alloc (.cells #[.int .i64 0,.string ⟨#[]⟩,.nilIface] 74):=⟨_,rfl⟩
 have S1:Hd (St w w1 q 0 ⟨#[]⟩ .nilIface):=by rw [hw1];exact ⟨st_new w q⟩
 have HE:Hd (ET w):=⟨he⟩
 clear he
 go_enter Tryz.func34,Tryz.ntmps34
 go_wp2
 rw [←hw1]
 clear hw1
 go_loopg [] ls.length (fun k wr=>∃ (ls':List Lk) (x:Int) (y:ByteArray) (z:Value),ls'.length≤k∧near p ls'=near p ls∧St w wr (val B ls') x y z)
 case atStart=>exact ⟨ls,0,_,_,Nat.le_refl _,rfl,by rw [←HQ.out];exact S1.out⟩
 case round =>
  obtain ⟨ls',x,y,z,hl,hn,hS⟩:=hrel
  clear S1 HQ ho
  cases ls' with
  | nil =>
   have C:=ask_miss B x y z w wr HE.out hS
   have N:Hd (near p ls=⟨0,⟨#[]⟩⟩):=⟨hn.symm⟩
   clear hn hS
   go_wp2_with (go_at_call 31;refine C.mono ?_;rintro e w2 ⟨rfl,h2⟩;have H2:Hd (St w w2 B.val x y z):=⟨h2⟩;obtain ⟨a0,a1,a2,a3,a4,a5⟩:=h2.ans;clear h2)
   refine bodyPost_ret (v:=.agg #[.int .i64 0,.string ⟨#[]⟩,.nilIface]) (res26 _ _ (w.heap.size+1) 0 ⟨#[]⟩ .nilIface rfl (H2.out.ans.set 0 ⟨#[]⟩ .nilIface)) rfl ⟨⟨.nilIface,?_⟩,Below.set3 H2.out.bel (Nat.le_succ _) 0 ⟨#[]⟩ .nilIface⟩
   rw [N.out]
  | cons l ls' =>
   obtain ⟨L,S⟩:=l
   have hz:=val_one B ls'
   have C:=ask_hit L S (val B ls') hz x y z w wr HE.out hS
   have D:=fun w=>SP L S (val B ls') w hz
   have HL:Hd (ls'.length+1≤gk):=⟨hl⟩
   clear hS hl
   cases hp:p L S with
   | true =>
    have N:Hd (near p ls=⟨L,S⟩):=⟨hn.symm.trans (near_yes hp)⟩
    rw [hp] at D
    clear hn hp
    generalize val B ls'=zz at *
    have hst:=fun (w:World) (a:Addr)=>run_store Tryz.prog w a zz .plain hz
    go_wp2_with (first
     | (go_at_call 31;refine C.mono ?_;rintro e w2 ⟨rfl,h2⟩;have H2:Hd (St w w2 (.iface 74 (.agg #[.int .i64 L,.string S,zz])) L S zz):=⟨h2⟩;obtain ⟨a0,a1,a2,a3,a4,a5⟩:=h2.flt;clear h2)
     | (go_at_fn g;refine (D _).mono ?_;rintro e w3 ⟨rfl,h3⟩;have H3:Hd (St w w3 (.iface 74 (.agg #[.int .i64 L,.string S,zz])) L S zz):=⟨H2.out.grown h3⟩;clear a0 a1 a2 a3 a4 a5 h3;obtain ⟨a0,a1,a2,a3,a4,a5⟩:=H3.out.flt;obtain ⟨b0,b1,b2,b3,b4,b5⟩:=H3.out.ans))
    refine bodyPost_ret (v:=.agg #[.int .i64 L,.string S,zz]) (res26 _ _ (w.heap.size+1) L S zz rfl (H3.out.ans.set L S zz)) rfl ⟨⟨zz,?_⟩,Below.set3 H3.out.bel (Nat.le_succ _) L S zz⟩
    rw [N.out]
   | false =>
    have N:Hd (near p ls'=near p ls):=⟨(near_no hp).symm.trans hn⟩
    rw [hp] at D
    clear hn hp
    obtain ⟨zz,hzz⟩:∃ zz,zz=val B ls':=⟨_,rfl⟩
    have ZZ:Hd (zz=val B ls'):=⟨hzz⟩
    rw [←hzz] at hz C D
    clear hzz
    have hsc:∀ W:World,W.cell? ⟨w.heap.size,0,none⟩=some (.iface 74 (.agg #[.int .i64 L,.string S,zz]))→W.frozen? ⟨w.heap.size,0,none⟩=false →
      (storeCells ⟨w.heap.size,0,none⟩ [zz]).run Tryz.prog W=.ok () (W.setCell ⟨w.heap.size,0,none⟩ zz):=fun W h1 h2=>by
     have:=store_ok ⟨w.heap.size,0,none⟩ zz _ W hz h1 h2
     simp [storeCells,Addr.add,this]
    go_wp2_with (first
     | (go_at_call 31;refine C.mono ?_;rintro e w2 ⟨rfl,h2⟩;have H2:Hd (St w w2 (.iface 74 (.agg #[.int .i64 L,.string S,zz])) L S zz):=⟨h2⟩;obtain ⟨a0,a1,a2,a3,a4,a5⟩:=h2.flt;clear h2)
     | (go_at_fn g;refine (D _).mono ?_;rintro e w3 ⟨rfl,h3⟩;have H3:Hd (St w w3 (.iface 74 (.agg #[.int .i64 L,.string S,zz])) L S zz):=⟨H2.out.grown h3⟩;clear a0 a1 a2 a3 a4 a5 h3;obtain ⟨a0,a1,a2,a3,a4,a5⟩:=H3.out.flt;have b0:=H3.out.err;have b1:=H3.out.frz))
    rw [hsc w3 b0 b1]
    go_wp2
    obtain ⟨k,rfl⟩:∃ k,gk=k+1:=⟨gk - 1,by have:=HL.out;omega⟩
    go_roundg k
    case rel=>exact ⟨ls',L,S,zz,by have:=HL.out;omega,N.out,by rw [←ZZ.out];exact H3.out.next zz⟩
    case measure=>exact Nat.lt_succ_self _
theorem says35:Says 35 (fun _ y=>!y.toList.isEmpty):=by
 refine ⟨enters_of Tryz.func35 (by kernel_rfl) rfl,fun x y z w hz=>?_⟩
 have b:Hd (Below w.heap.size w (w.alloc (.cells #[.int .i64 x,.string y,z] 74))):=⟨(Below.refl _ _).alloc (Nat.le_refl _) _⟩
 go_enter Tryz.func35,Tryz.ntmps35
 go_wp2
 go_ret
 exact ⟨rfl,b.out⟩
theorem field1 (x:Int) (y:ByteArray) (z:Value) (w:World):(Instr.field 74 (.agg #[.int .i64 x,.string y,z]) 1).run Tryz.prog w=.ok (.string y) w:=by kernel_rfl
theorem what_ok (B:Base) (ls:List Lk) (w:World) (he:ET w) :
  Calls Tryz.prog 13 #[val B ls] w fun e w'=>e=.returned (.string (near (fun _ y=>!y.toList.isEmpty) ls).what)∧Below w.heap.size w w':=by
 have fd:=field1
 have C:=nearest_ok 35 _ says35 B ls w he
 clear he
 generalize near (fun _ y=>!y.toList.isEmpty) ls=l at *
 generalize val B ls=q at *
 obtain ⟨L,S⟩:=l
 simp only at C ⊢
 go_enter Tryz.func13,Tryz.ntmps13
 go_wp2_with (go_at_call 34;refine C.mono ?_;rintro e w' ⟨⟨z,rfl⟩,hb⟩)
 go_ret
 exact ⟨rfl,hb⟩
theorem of_ok (S:ByteArray) (n:Int) (w:World) :
  Calls Tryz.prog 25 #[.string S,.iface 38 (.int .i64 n)] w fun e w'=>e=.returned (val (.inl n) [⟨0,S⟩])∧w'=w:=by
 have hq:val (.inl n) [⟨0,S⟩]=.iface 74 (.agg #[.int .i64 0,.string S,.iface 38 (.int .i64 n)]):=rfl
 rw [hq]
 clear hq
 go_enter Tryz.func25,Tryz.ntmps25
 go_wp2
 go_ret
 exact ⟨rfl,rfl⟩
end Go.Proofs.YthkdbphgiobcdaaGreatDoor
