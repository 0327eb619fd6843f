import Derived.Test.YtnbpdffdnphbeaaGreatDoorComp
import Derived.Deep.RegionLaw
set_option maxHeartbeats 1000000
namespace Go.Proofs.YtnbpdffdnphbeaaGreatDoor
open Go.RowKit
attribute [local go_sem ↓] Go.wp_at_zero Go.wp_at_succ
variable{tests root dep:Int}{P:List PT}{g G cap R:Nat}{v:Value}{w' w:World}
def XA(x:zX):List Value:=[.int .i64 x.kind,.int .i64 x.left,.int .i64 x.right,.string ⟨x.name.toArray⟩,.string ⟨x.mark.toArray⟩,.string ⟨x.other.toArray⟩,.int .i64 x.num]
def fZ(ns:List zX):List Value:=ns.flatMap XA
theorem CP(ns:List zX)(x:zX):fZ (ns++[x])=fZ ns++XA x:=by simp[fZ]
def sK(nv:Value)(root tests dep:Int):Obj:=.cells #[nv,.int .i64 root,.int .i64 tests,.int .i64 dep] 232 (0,0)
def Gd(w:World)(G:Nat)(nd:List zX)(root tests dep:Int):Prop :=
 ∃nv,w.heap[G]? = some (sK nv root tests dep)/\w.ownsRow (G+1) 304 7 nv nd.length (fZ nd)
theorem jz:(Tryz.prog.info? 304).map (fun i=>(i.zero,i.size,i.bytes))=some (some (.agg #[.int .i64 0,.int .i64 0,.int .i64 0,.string ⟨#[]⟩,.string ⟨#[]⟩,.string ⟨#[]⟩,.int .i64 0]),7,80):=by kernel_rfl
theorem Gd.lt{nd:List zX}(h:Gd w G nd root tests dep):G<w.heap.size:=by
 obtain⟨nv,h1,_⟩:=h;rcases po G w.heap.size with h2|h2
 ·exact h2
 ·rw[pj h2]at h1;cases h1
theorem zDS{nv:Value}(h:w.heap[G]? = some (sK nv root tests dep)):(w.setCell ⟨G,0,none⟩ v).heap[G]? = some (sK v root tests dep):=by
 unfold sK at h ⊢;rw[m6 w G 0 _ _ _ h];simp
theorem xA{B:Nat}{e:TypeId}{size:Nat}{n:Nat}{xs:List Value}(h:w.ownsRow B e size v n xs){b o:Nat}{u:Value}(hb:b<B):(w.setCell ⟨b,o,none⟩ u).ownsRow B e size v n xs :=
 ownsRow_setCell_below h (a:=⟨b,o,none⟩) hb u
theorem zDV{w1:World}{x y:Obj}{row:Option Nat}(hg:((w.alloc x).alloc y).drew.grownBy w1 row)(h:w.frozen? ⟨G,0,none⟩=false)(hG:G<w.heap.size)(hr:some G≠row):w1.frozen? ⟨G,0,none⟩=false:=by
 have hb:w1.heap[G]? = w.heap[G]? := by
  rw[hg.block G (by show G<((w.alloc x).alloc y).heap.size;simp;omega) hr];show ((w.alloc x).alloc y).heap[G]? = _;rw[mq _ _ _ (by simp;omega),mq _ _ _ hG]
 rw[dl (w:=w) hb];exact h
theorem zE4{w1:World}{x y:Obj}{row:Option Nat}(hg:((w.alloc x).alloc y).drew.grownBy w1 row)(h:w.cell? ⟨G,0,none⟩=some v)(hG:G<w.heap.size)(hr:some G≠row):w1.cell? ⟨G,0,none⟩=some v:=by
 have hb:w1.heap[G]? = w.heap[G]? := by
  rw[hg.block G (by show G<((w.alloc x).alloc y).heap.size;simp;omega) hr];show ((w.alloc x).alloc y).heap[G]? = _;rw[mq _ _ _ (by simp;omega),mq _ _ _ hG]
 rw[l7 (w:=w) hb];exact h
theorem UK(w:World)(G:Nat)(nd:List zX)(root tests dep:Int)(x:zX)(h:Gd w G nd root tests dep)(hn:nd.length<=10000) :
 Calls Tryz.prog 257 #[.pointer (some ⟨G,0,none⟩),jQ x] w fun e w'=>e=.returned (.int .i64 (nd.length:Nat))/\Gd w' G (nd++[x]) root tests dep/\Below G w w':=by
 obtain⟨i0,hi0,hz0,hz1,hz2⟩:=dp jz;have hG:=h.lt;obtain⟨nv,hg,zI8⟩:=h;have c0:w.cell? ⟨G,0,none⟩=some nv:=by unfold sK at hg;rw[fg w G 0 _ _ _ hg];rfl
 have fz:w.frozen? ⟨G,0,none⟩=false:=by unfold sK at hg;simp[World.frozen?,hg]
 have n0:w.heap.size≠G:=by omega
 have n1:w.heap.size+1≠G:=by omega
 have HG:=zA hg;have HOB:=zA (zQ zI8);have hnc:XA x=[.int .i64 x.kind,.int .i64 x.left,.int .i64 x.right,.string ⟨x.name.toArray⟩,.string ⟨x.mark.toArray⟩,.string ⟨x.other.toArray⟩,.int .i64 x.num]:=rfl;obtain⟨xk,xl,xr,xn,xm,xo,xu⟩:=x;simp only at hnc;simp only[jQ];have HX:=zA hnc;have a1:some G≠nv.ownBlock:=fun e=>by have h1:=(HOB.out G e.symm).1;omega
 have a2:some w.heap.size≠nv.ownBlock:=fun e=>by have h1:=(HOB.out w.heap.size e.symm).2;omega
 clear hg hnc
 go_enter Tryz.func257,Tryz.ntmps257
 go_wp2_with fail
 go_region_law ((refine step_append_lies _ (by rfl) _ _ _ (by rfl) (G+1) 304 i0 _ 7 80 Tryz.underlying230 hi0 hz0 hz1 hz2 rfl (by decide) nv nd.length (fZ nd) (by rfl) (((zI8.alloc _).alloc _).drew) ⟨w.heap.size+1,0,none⟩ 1 1 (XA ⟨xk,xl,xr,xn,xm,xo,xu⟩) (by rfl) (by rfl) (by rw[HX.out];exact uT _ _ _ _ rfl (by simp)) (by rw[HX.out];simp[Value.oneCell']) (by decide) (by unfold maxLen;omega) (by omega) (by simp;omega) (w.heap.size+1+1) (by simp) ?_;intro gg cap w1 zI9 zI7 zJ8 zI6;have fz1:w1.frozen? ⟨G,0,none⟩=false:=zDV zI7 fz hG a1;have c1':w1.cell? ⟨G,0,none⟩=some nv:=zE4 zI7 c0 hG a1))
 all_goals
  have zIS:Below G w w1:=(((tj G w).alloc (by omega) _).alloc (by simp;omega) _).drew.grown zI7 (by show G<=((w.alloc _).alloc _).heap.size;simp;omega) (fun k hk=>by have h1:=(HOB.out k hk).1;omega)
  have hg1:w1.heap[G]? = some (sK nv root tests dep):=by
   rw[zI7.block G (by show G<((w.alloc _).alloc _).heap.size;simp;omega) a1];show ((w.alloc _).alloc _).heap[G]? = _;rw[mq _ _ _ (by simp;omega),mq _ _ _ hG];exact HG.out
  have HG1:=zA hg1;have HBel:=zA zIS;have HO1:=zA zI9;clear hg1 zIS zI9 zI7 zI8;go_wp2_with fail
  go_ret
  refine⟨zY (by simp),⟨_,zDS HG1.out,?_⟩,HBel.out.setCell (p:=⟨G,0,none⟩) (t9 _) _⟩;rw[CP,tq];exact xA HO1.out (mh G)
structure GS where
 s:St
 nd:List zX
 tests:Int
 dep:Int
variable{q:GS}
def GS.to(q:GS)(s:St):GS:=⟨s,q.nd,q.tests,q.dep⟩
def GS.add(q:GS)(x:zX):GS:=⟨q.s,q.nd++[x],q.tests,q.dep⟩
def GS.tested(q:GS)(d:Int):GS:=⟨q.s,q.nd,q.tests+1,if q.dep<d then d else q.dep⟩
def mY(P:List PT)(item:GS->Int × GS)(tok:Bs)(kind:Int):Nat->Int->GS->Int × GS
 | 0,left,q=>(left,q)
 | k+1,left,q =>
   match (zC P tok q.s).1 with
   | false=>(left,q.to (zC P tok q.s).2)
   | true=>mY P item tok kind k ((item (q.to (zC P tok q.s).2)).2.nd.length:Nat) ((item (q.to (zC P tok q.s).2)).2.add ⟨kind,left,(item (q.to (zC P tok q.s).2)).1,[],[],[],0⟩)
def mO(P:List PT)(fact:GS->Int->Int × GS)(q:GS)(d:Int):Int × GS:=mY P (fun q=>fact q d) yE 2 P.length (fact q d).1 (fact q d).2
def aY(P:List PT)(fact:GS->Int->Int × GS)(q:GS)(d:Int):Int × GS:=mY P (fun q=>mO P fact q d) xW 1 P.length (mO P fact q d).1 (mO P fact q d).2
def xF(P:List PT):Nat->GS->Int->Int × GS
 | 0,q,_=>(0,q)
 | n+1,q,d =>
   match (zC P yY q.s).1 with
   | true=>(((xF P n (q.to (zC P yY q.s).2) (d+1)).2.nd.length:Nat),(xF P n (q.to (zC P yY q.s).2) (d+1)).2.add ⟨3,(xF P n (q.to (zC P yY q.s).2) (d+1)).1,0,[],[],[],0⟩)
   | false =>
     match (zC P yQ (zC P yY q.s).2).1 with
     | true=>((aY P (xF P n) (q.to (zC P yQ (zC P yY q.s).2).2) (d+1)).1,
      (aY P (xF P n) (q.to (zC P yQ (zC P yY q.s).2).2) (d+1)).2.to (zU P xS (aY P (xF P n) (q.to (zC P yQ (zC P yY q.s).2).2) (d+1)).2.s))
     | false=>((q.nd.length:Nat),(((q.tested d).to (vA P (zC P yQ (zC P yY q.s).2).2).2).add (vA P (zC P yQ (zC P yY q.s).2).2).1))
def fF(P:List PT)(n:Nat):GS->Int->Int × GS:=mO P (xF P n)
def ZG(P:List PT)(n:Nat):GS->Int->Int × GS:=aY P (xF P n)
structure Yi(w:World)(R g cap:Nat)(P:List PT)(G:Nat)(root:Int)(q:GS):Prop where
 ctx:vK w R g cap P q.s
 gd:Gd w G q.nd root q.tests q.dep
 rG:R<G
 gG:g<G
theorem Gd.keeps{nd:List zX}(h:Gd w G nd root tests dep)(hk:zB w.heap.size R w w')(hR:R<G):Gd w' G nd root tests dep:=by
 have zI6:=h.lt;obtain⟨nv,h1,h2⟩:=h;exact⟨nv,by rw[hk.block G zI6 (by omega)];exact h1,uQ h2 hk (by omega)⟩
theorem Yi.read{s':St}(h:Yi w R g cap P G root q)(hc:vK w' R g cap P s')(hk:zB w.heap.size R w w'):Yi w' R g cap P G root (q.to s') :=
 ⟨hc,h.gd.keeps hk h.rG,h.rG,h.gG⟩
theorem yO.belowG{s:St}(h:vK w R g cap P s)(hb:Below G w w')(hR:R<G)(hg:g<G):vK w' R g cap P s:=by
 refine⟨?_,?_,h.gR,ti h.glt hb.size,h.at',h.cap1,h.cap2,h.many,h.endk⟩
 ·rw[hb.block R hR];exact h.blk
 ·intro i hi
  have hb':∀o,w'.cell? ⟨g,o,none⟩=w.cell? ⟨g,o,none⟩:=fun o=>l7 (w:=w) (hb.block g hg);rw[hb',hb',hb',hb'];exact h.tok i hi
theorem Yi.added{x:zX}(h:Yi w R g cap P G root q)(hg:Gd w' G (q.nd++[x]) root q.tests q.dep)(hb:Below G w w'):Yi w' R g cap P G root (q.add x) :=
 ⟨h.ctx.belowG hb h.rG h.gG,hg,h.rG,h.gG⟩
def Yr(P:List PT)(q:GS):Nat:=q.nd.length+2*(P.length-q.s.1)
structure zBN(P:List PT)(q:GS)(d:Int):Prop where
 t0:0<=q.tests
 t1:q.tests<=(q.nd.length:Int)
 room:Yr P q<=9000
 d0:0<=d
 d1:d<=(q.s.1:Int)
structure Z7(P:List PT)(q q':GS):Prop where
 mono:q.s.1<=q'.s.1
 pot':Yr P q'<=Yr P q+1
 t0:0<=q'.tests
 t1:q'.tests<=(q'.nd.length:Int)
def QA(R g cap:Nat)(P:List PT)(G:Nat)(root:Int)(n:Nat):Prop:=∀(w:World) (q:GS) (d:Int),Yi w R g cap P G root q->zBN P q d->P.length-q.s.1<=n ->
 Calls Tryz.prog 259 #[.pointer (some ⟨R,0,none⟩),.pointer (some ⟨G,0,none⟩),.int .i64 d] w fun e w'=>e=.returned (.int .i64 (xF P n q d).1)/\Yi w' R g cap P G root (xF P n q d).2/\zB G R w w'/\Z7 P q (xF P n q d).2
def JM(R g cap:Nat)(P:List PT)(G:Nat)(root:Int)(n:Nat):Prop:=∀(w:World) (q:GS) (d:Int),Yi w R g cap P G root q->zBN P q d->P.length-q.s.1<=n ->
 Calls Tryz.prog 256 #[.pointer (some ⟨R,0,none⟩),.pointer (some ⟨G,0,none⟩),.int .i64 d] w fun e w'=>e=.returned (.int .i64 (fF P n q d).1)/\Yi w' R g cap P G root (fF P n q d).2/\zB G R w w'/\Z7 P q (fF P n q d).2
def Va(R g cap:Nat)(P:List PT)(G:Nat)(root:Int)(n:Nat):Prop:=∀(w:World) (q:GS) (d:Int),Yi w R g cap P G root q->zBN P q d->P.length-q.s.1<=n ->
 Calls Tryz.prog 248 #[.pointer (some ⟨R,0,none⟩),.pointer (some ⟨G,0,none⟩),.int .i64 d] w fun e w'=>e=.returned (.int .i64 (ZG P n q d).1)/\Yi w' R g cap P G root (ZG P n q d).2/\zB G R w w'/\Z7 P q (ZG P n q d).2
theorem zB.of_size(hk:zB w.heap.size R w w')(hG:G<=w.heap.size):zB G R w w':=hk.mono hG
theorem zB.of_belowG(hb:Below G w w'):zB G R w w':=zB.of_below hb
theorem X2{t:Bs}(h:(zC P t q.s).1=true)(ha:q.s.1<P.length):Yr P (q.to (zC P t q.s).2)+2=Yr P q:=by
 unfold Yr GS.to;simp only;rw[qU h];omega
theorem BT{s:St}(h:q.s.1<=s.1):Yr P (q.to s)<=Yr P q:=by
 unfold Yr GS.to;simp only;omega
def DF(L R:Nat)(w:World):Nat:=L-uw w R
theorem Yi.meas(h:Yi w R g cap P G root q):DF P.length R w=P.length-q.s.1:=by
 unfold DF;rw[yO.rdAt h.ctx]
end Go.Proofs.YtnbpdffdnphbeaaGreatDoor
