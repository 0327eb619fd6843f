import Derived.Test.YtnbpdffdnphbeaaGreatDoorComp
import Derived.Deep.RegionLaw
set_option maxHeartbeats 1000000
namespace Go.Proofs.YtnbpdffdnphbeaaGreatDoor
open Go.RowKit
attribute [local go_sem ↓] Go.wp_at_zero Go.wp_at_succ
def Xm(x:yB):List Value:=[.int .i64 x.kind,.int .i64 x.left,.int .i64 x.right,.string ⟨x.name.toArray⟩,.string ⟨x.mark.toArray⟩,.string ⟨x.other.toArray⟩,.int .i64 x.num]
def gO(ns:List yB):List Value:=ns.flatMap Xm
theorem BL(ns:List yB)(x:yB):gO (ns++[x])=gO ns++Xm x:=by simp[gO]
def sU(nv:Value)(root tests dep:Int):Obj:=.cells #[nv,.int .i64 root,.int .i64 tests,.int .i64 dep] 232 (0,0)
def Gd(w:World)(G:Nat)(nd:List yB)(root tests dep:Int):Prop :=
 ∃nv,w.heap[G]? = some (sU nv root tests dep)/\w.ownsRow (G+1) 304 7 nv nd.length (gO nd)
theorem ug:(Tryz.prog.info? 304).map (fun i=>(i.zero,i.size,i.bytes))=some (some (.agg #[.int .i64 0,.int .i64 0,.int .i64 0,.string ⟨#[]⟩,.string ⟨#[]⟩,.string ⟨#[]⟩,.int .i64 0]),7,80):=by kernel_rfl
theorem Gd.lt{w:World}{G:Nat}{nd:List yB}{root tests dep:Int}(h:Gd w G nd root tests dep):G<w.heap.size:=by
 obtain⟨nv,h1,_⟩:=h;rcases Nat.lt_or_ge G w.heap.size with h2|h2
 ·exact h2
 ·rw[Array.getElem?_eq_none h2]at h1;cases h1
theorem zBG{w:World}{G:Nat}{nv v:Value}{root tests dep:Int}(h:w.heap[G]? = some (sU nv root tests dep)):(w.setCell ⟨G,0,none⟩ v).heap[G]? = some (sU v root tests dep):=by
 unfold sU at h ⊢;rw[heap_setCell_same w G 0 _ _ _ h];simp
theorem xN{w:World}{B:Nat}{e:TypeId}{size:Nat}{v:Value}{n:Nat}{xs:List Value}(h:w.ownsRow B e size v n xs){b o:Nat}{u:Value}(hb:b<B):(w.setCell ⟨b,o,none⟩ u).ownsRow B e size v n xs :=
 ownsRow_setCell_below h (a:=⟨b,o,none⟩) hb u
theorem zBJ{w w1:World}{G:Nat}{x y:Obj}{row:Option Nat}(hg:((w.alloc x).alloc y).drew.grownBy w1 row)(h:w.frozen? ⟨G,0,none⟩=false)(hG:G<w.heap.size)(hr:some G≠row):w1.frozen? ⟨G,0,none⟩=false:=by
 have hb:w1.heap[G]? = w.heap[G]? := by
  rw[hg.block G (by show G<((w.alloc x).alloc y).heap.size;simp;omega) hr];show ((w.alloc x).alloc y).heap[G]? = _;rw[Below.heap_alloc _ _ _ (by simp;omega),Below.heap_alloc _ _ _ hG]
 rw[World.frozen?_of_block (w:=w) hb];exact h
theorem zBU{w w1:World}{G:Nat}{x y:Obj}{v:Value}{row:Option Nat}(hg:((w.alloc x).alloc y).drew.grownBy w1 row)(h:w.cell? ⟨G,0,none⟩=some v)(hG:G<w.heap.size)(hr:some G≠row):w1.cell? ⟨G,0,none⟩=some v:=by
 have hb:w1.heap[G]? = w.heap[G]? := by
  rw[hg.block G (by show G<((w.alloc x).alloc y).heap.size;simp;omega) hr];show ((w.alloc x).alloc y).heap[G]? = _;rw[Below.heap_alloc _ _ _ (by simp;omega),Below.heap_alloc _ _ _ hG]
 rw[World.cell?_of_block (w:=w) hb];exact h
theorem VS(w:World)(G:Nat)(nd:List yB)(root tests dep:Int)(x:yB)(h:Gd w G nd root tests dep)(hn:nd.length<=10000) :
 Calls Tryz.prog 257 #[.pointer (some ⟨G,0,none⟩),jH x] w fun e w'=>e=.returned (.int .i64 (nd.length:Nat))/\Gd w' G (nd++[x]) root tests dep/\Below G w w':=by
 obtain⟨i0,hi0,hz0,hz1,hz2⟩:=info_parts ug;have hG:=h.lt;obtain⟨nv,hg,zG0⟩:=h;have c0:w.cell? ⟨G,0,none⟩=some nv:=by unfold sU at hg;rw[cell_of_row w G 0 _ _ _ hg];rfl
 have fz:w.frozen? ⟨G,0,none⟩=false:=by unfold sU at hg;simp[World.frozen?,hg]
 have n0:w.heap.size≠G:=by omega
 have n1:w.heap.size+1≠G:=by omega
 have HG:=zA hg;have HOB:=zA (xZ zG0);have hnc:Xm x=[.int .i64 x.kind,.int .i64 x.left,.int .i64 x.right,.string ⟨x.name.toArray⟩,.string ⟨x.mark.toArray⟩,.string ⟨x.other.toArray⟩,.int .i64 x.num]:=rfl;obtain⟨xk,xl,xr,xn,xm,xo,xu⟩:=x;simp only at hnc;simp only[jH];have HX:=zA hnc;have a1:some G≠nv.ownBlock:=fun e=>by have h1:=(HOB.out G e.symm).1;omega
 have a2:some w.heap.size≠nv.ownBlock:=fun e=>by have h1:=(HOB.out w.heap.size e.symm).2;omega
 clear hg hnc
 go_enter Tryz.func257,Tryz.ntmps257
 go_wp2_with fail
 go_region_law ((refine step_append_lies _ (by rfl) _ _ _ (by rfl) (G+1) 304 i0 _ 7 80 Tryz.underlying230 hi0 hz0 hz1 hz2 rfl (by decide) nv nd.length (gO nd) (by rfl) (((zG0.alloc _).alloc _).drew) ⟨w.heap.size+1,0,none⟩ 1 1 (Xm ⟨xk,xl,xr,xn,xm,xo,xu⟩) (by rfl) (by rfl) (by rw[HX.out];exact uH _ _ _ _ rfl (by simp)) (by rw[HX.out];simp[Value.oneCell']) (by decide) (by unfold maxLen;omega) (by omega) (by simp;omega) (w.heap.size+1+1) (by simp) ?_;intro gg cap w1 zG1 zFZ hat zFY;have fz1:w1.frozen? ⟨G,0,none⟩=false:=zBJ zFZ fz hG a1;have c1':w1.cell? ⟨G,0,none⟩=some nv:=zBU zFZ c0 hG a1))
 all_goals
  have zGI:Below G w w1:=(((Below.refl G w).alloc (by omega) _).alloc (by simp;omega) _).drew.grown zFZ (by show G<=((w.alloc _).alloc _).heap.size;simp;omega) (fun k hk=>by have h1:=(HOB.out k hk).1;omega)
  have hg1:w1.heap[G]? = some (sU nv root tests dep):=by
   rw[zFZ.block G (by show G<((w.alloc _).alloc _).heap.size;simp;omega) a1];show ((w.alloc _).alloc _).heap[G]? = _;rw[Below.heap_alloc _ _ _ (by simp;omega),Below.heap_alloc _ _ _ hG];exact HG.out
  have HG1:=zA hg1;have HBel:=zA zGI;have HO1:=zA zG1;clear hg1 zGI zG1 zFZ zG0;go_wp2_with fail
  go_ret
  refine⟨yA (by simp),⟨_,zBG HG1.out,?_⟩,HBel.out.setCell (p:=⟨G,0,none⟩) (Nat.le_refl _) _⟩;rw[BL,List.length_append];exact xN HO1.out (Nat.lt_succ_self G)
structure GS where
 s:St
 nd:List yB
 tests:Int
 dep:Int
def GS.to(q:GS)(s:St):GS:=⟨s,q.nd,q.tests,q.dep⟩
def GS.add(q:GS)(x:yB):GS:=⟨q.s,q.nd++[x],q.tests,q.dep⟩
def GS.tested(q:GS)(d:Int):GS:=⟨q.s,q.nd,q.tests+1,if q.dep<d then d else q.dep⟩
def mV(P:List PT)(item:GS->Int × GS)(tok:Bs)(kind:Int):Nat->Int->GS->Int × GS
 | 0,left,q=>(left,q)
 | k+1,left,q =>
   match (zC P tok q.s).1 with
   | false=>(left,q.to (zC P tok q.s).2)
   | true=>mV P item tok kind k ((item (q.to (zC P tok q.s).2)).2.nd.length:Nat) ((item (q.to (zC P tok q.s).2)).2.add ⟨kind,left,(item (q.to (zC P tok q.s).2)).1,[],[],[],0⟩)
def mI(P:List PT)(fact:GS->Int->Int × GS)(q:GS)(d:Int):Int × GS:=mV P (fun q=>fact q d) yL 2 P.length (fact q d).1 (fact q d).2
def eG(P:List PT)(fact:GS->Int->Int × GS)(q:GS)(d:Int):Int × GS:=mV P (fun q=>mI P fact q d) vK 1 P.length (mI P fact q d).1 (mI P fact q d).2
def xK(P:List PT):Nat->GS->Int->Int × GS
 | 0,q,_=>(0,q)
 | n+1,q,d =>
   match (zC P xG q.s).1 with
   | true=>(((xK P n (q.to (zC P xG q.s).2) (d+1)).2.nd.length:Nat),(xK P n (q.to (zC P xG q.s).2) (d+1)).2.add ⟨3,(xK P n (q.to (zC P xG q.s).2) (d+1)).1,0,[],[],[],0⟩)
   | false =>
     match (zC P yW (zC P xG q.s).2).1 with
     | true=>((eG P (xK P n) (q.to (zC P yW (zC P xG q.s).2).2) (d+1)).1,
      (eG P (xK P n) (q.to (zC P yW (zC P xG q.s).2).2) (d+1)).2.to (zY P vD (eG P (xK P n) (q.to (zC P yW (zC P xG q.s).2).2) (d+1)).2.s))
     | false=>((q.nd.length:Nat),(((q.tested d).to (vF P (zC P yW (zC P xG q.s).2).2).2).add (vF P (zC P yW (zC P xG q.s).2).2).1))
def fF(P:List PT)(n:Nat):GS->Int->Int × GS:=mI P (xK P n)
def Zz(P:List PT)(n:Nat):GS->Int->Int × GS:=eG P (xK P n)
structure ZN(w:World)(R g cap:Nat)(P:List PT)(G:Nat)(root:Int)(q:GS):Prop where
 ctx:vO w R g cap P q.s
 gd:Gd w G q.nd root q.tests q.dep
 rG:R<G
 gG:g<G
theorem Gd.keeps{w w':World}{G R:Nat}{nd:List yB}{root tests dep:Int}(h:Gd w G nd root tests dep)(hk:zB w.heap.size R w w')(hR:R<G):Gd w' G nd root tests dep:=by
 have zFY:=h.lt;obtain⟨nv,h1,h2⟩:=h;exact⟨nv,by rw[hk.block G zFY (by omega)];exact h1,uL h2 hk (by omega)⟩
theorem ZN.read{w w':World}{R g cap:Nat}{P:List PT}{G:Nat}{root:Int}{q:GS}{s':St}(h:ZN w R g cap P G root q)(hc:vO w' R g cap P s')(hk:zB w.heap.size R w w'):ZN w' R g cap P G root (q.to s') :=
 ⟨hc,h.gd.keeps hk h.rG,h.rG,h.gG⟩
theorem yK.belowG{w w':World}{R g cap G:Nat}{P:List PT}{s:St}(h:vO w R g cap P s)(hb:Below G w w')(hR:R<G)(hg:g<G):vO w' R g cap P s:=by
 refine⟨?_,?_,h.gR,Nat.lt_of_lt_of_le h.glt hb.size,h.at',h.cap1,h.cap2,h.many,h.endk⟩
 ·rw[hb.block R hR];exact h.blk
 ·intro i hi
  have hb':∀o,w'.cell? ⟨g,o,none⟩=w.cell? ⟨g,o,none⟩:=fun o=>World.cell?_of_block (w:=w) (hb.block g hg);rw[hb',hb',hb',hb'];exact h.tok i hi
theorem ZN.added{w w':World}{R g cap:Nat}{P:List PT}{G:Nat}{root:Int}{q:GS}{x:yB}(h:ZN w R g cap P G root q)(hg:Gd w' G (q.nd++[x]) root q.tests q.dep)(hb:Below G w w'):ZN w' R g cap P G root (q.add x) :=
 ⟨h.ctx.belowG hb h.rG h.gG,hg,h.rG,h.gG⟩
def ZS(P:List PT)(q:GS):Nat:=q.nd.length+2*(P.length-q.s.1)
structure jg(P:List PT)(q:GS)(d:Int):Prop where
 t0:0<=q.tests
 t1:q.tests<=(q.nd.length:Int)
 room:ZS P q<=9000
 d0:0<=d
 d1:d<=(q.s.1:Int)
structure Zq(P:List PT)(q q':GS):Prop where
 mono:q.s.1<=q'.s.1
 pot':ZS P q'<=ZS P q+1
 t0:0<=q'.tests
 t1:q'.tests<=(q'.nd.length:Int)
def Qb(R g cap:Nat)(P:List PT)(G:Nat)(root:Int)(n:Nat):Prop:=∀(w:World) (q:GS) (d:Int),ZN w R g cap P G root q->jg P q d->P.length-q.s.1<=n ->
 Calls Tryz.prog 259 #[.pointer (some ⟨R,0,none⟩),.pointer (some ⟨G,0,none⟩),.int .i64 d] w fun e w'=>e=.returned (.int .i64 (xK P n q d).1)/\ZN w' R g cap P G root (xK P n q d).2/\zB G R w w'/\Zq P q (xK P n q d).2
def Jl(R g cap:Nat)(P:List PT)(G:Nat)(root:Int)(n:Nat):Prop:=∀(w:World) (q:GS) (d:Int),ZN w R g cap P G root q->jg P q d->P.length-q.s.1<=n ->
 Calls Tryz.prog 256 #[.pointer (some ⟨R,0,none⟩),.pointer (some ⟨G,0,none⟩),.int .i64 d] w fun e w'=>e=.returned (.int .i64 (fF P n q d).1)/\ZN w' R g cap P G root (fF P n q d).2/\zB G R w w'/\Zq P q (fF P n q d).2
def Kk(R g cap:Nat)(P:List PT)(G:Nat)(root:Int)(n:Nat):Prop:=∀(w:World) (q:GS) (d:Int),ZN w R g cap P G root q->jg P q d->P.length-q.s.1<=n ->
 Calls Tryz.prog 248 #[.pointer (some ⟨R,0,none⟩),.pointer (some ⟨G,0,none⟩),.int .i64 d] w fun e w'=>e=.returned (.int .i64 (Zz P n q d).1)/\ZN w' R g cap P G root (Zz P n q d).2/\zB G R w w'/\Zq P q (Zz P n q d).2
theorem zB.of_size{w w':World}{G R:Nat}(hk:zB w.heap.size R w w')(hG:G<=w.heap.size):zB G R w w':=hk.mono hG
theorem zB.of_belowG{w w':World}{G R:Nat}(hb:Below G w w'):zB G R w w':=zB.of_below hb
theorem Xc{P:List PT}{q:GS}{t:Bs}(h:(zC P t q.s).1=true)(ha:q.s.1<P.length):ZS P (q.to (zC P t q.s).2)+2=ZS P q:=by
 unfold ZS GS.to;simp only;rw[qL h];omega
theorem UP{P:List PT}{q:GS}{s:St}(h:q.s.1<=s.1):ZS P (q.to s)<=ZS P q:=by
 unfold ZS GS.to;simp only;omega
def CI(L R:Nat)(w:World):Nat:=L-zw w R
theorem ZN.meas{w:World}{R g cap:Nat}{P:List PT}{G:Nat}{root:Int}{q:GS}(h:ZN w R g cap P G root q):CI P.length R w=P.length-q.s.1:=by
 unfold CI;rw[yK.rdAt h.ctx]
end Go.Proofs.YtnbpdffdnphbeaaGreatDoor
