import Derived.Test.YtnbpdffdnphbeabGreatDoorPut
namespace Go.Proofs.YtnbpdffdnphbeabGreatDoor
def tV(x:xE):Bool:=x.starred&&decide (9<x.num)
def pp(ts:sM)(len:Nat):List PT:=ts.map (fun t=>⟨yJ t.2,t.2,kK t.2,t.1⟩)++[⟨0,[],0,len⟩]
def tA(ts:sM)(i:Nat):Bs:=(ts.getD i (0,[])).2
def cA(ts:sM)(i:Nat):Bs:=nU (tA ts i)
def FA(ts:sM)(len:Nat)(i:Nat)(st:Bs)(op:Int):Int:=ja len (ts.drop i) st op
abbrev zH1(c:Bs):Prop:=c≠XY/\c≠dE/\c≠kI/\c≠vI/\c≠cP/\c≠vG
def vh:sM->zFY->zFY
 | [],st=>st
 | t::r,st=>vh r (Ys t.2 st)
abbrev lf(N:List zT)(a:Int):Int:=(pO N a.toNat).left
abbrev rg(N:List zT)(a:Int):Int:=(pO N a.toNat).right
def zJT(x:zT)(u:sM):Prop :=
 (x.kind=4/\∃t,u=[t]/\nU t.2=[97,108,119,97,121,115]) \/
 (x.kind=5/\∃t s,u=[t,s]/\nU t.2=[104,97,115]/\nU s.2=Ve/\x.name=s.2) \/
 (x.kind=6/\∃t,u=[t]/\nU t.2=Ve/\x.name=t.2) \/
 (x.kind=7/\∃t m s,u=[t,m,s]/\nU t.2=Ve/\x.name=t.2/\m.2∈aZ/\x.mark=m.2/\((nU s.2=CT/\x.other=[]/\x.num=lN 0 s.2)\/(nU s.2=Ve/\x.other=s.2/\s.2≠[])))
def zJU(N:List zT)(a:Int)(u:sM):Prop:=0<=a/\a<N.length/\(4<=(pO N a.toNat).kind)/\(∀st,zJ2 (pO N a.toNat) st=vh u st)/\zJT (pO N a.toNat) u
def NegN(N:List zT)(a:Int):Prop:=0<=a/\a<N.length/\(pO N a.toNat).kind=3/\lf N a<a
def zK1(kd:Int)(N:List zT)(a:Int):Prop:=0<=a/\a<N.length/\(pO N a.toNat).kind=kd/\lf N a<a/\rg N a<a
def zGM(u:sM):Prop:=u≠[]/\∀t∈u,zH1 (nU t.2)
def negT(x:Bs × Int):Bs × Int:=([110,111,116,32]++(if 0<x.2 then brk x.1 else x.1),0)
def andT(x y:Bs × Int):Bs × Int:=((if x.2=2 then brk x.1 else x.1)++[32,97,110,100,32]++(if y.2=2 then brk y.1 else y.1),1)
def orT(x y:Bs × Int):Bs × Int:=(x.1++[32,111,114,32]++y.1,2)
structure Cl(R:Nat->sM->Bs × Int->List zT->Int->Prop):Prop where
 test:∀k u N a,zGM u->zJU N a u->R k u (zHT u,0) N a
 neg:∀k t u x N a,nU t.2=vG->NegN N a->R 0 u x N (lf N a)->R k (t::u) (negT x) N a
 br:∀k o u c x N a,nU o.2=vI->nU c.2=kI->R 2 u x N a->R k (o::(u++[c])) x N a
 and:∀k u t v x y N a,1<=k->nU t.2=dE->zK1 2 N a->R 1 u x N (lf N a)->R 0 v y N (rg N a)->R k (u++t::v) (andT x y) N a
 or:∀k u t v x y N a,2<=k->nU t.2=XY->zK1 1 N a->R 2 u x N (lf N a)->R 1 v y N (rg N a)->R k (u++t::v) (orT x y) N a
def Gr(k:Nat)(u:sM)(x:Bs × Int)(N:List zT)(a:Int):Prop:=∀R,Cl R->R k u x N a
abbrev TT(ts:sM)(i:Nat):Nat × Bs:=ts.getD i (0,[])
end Go.Proofs.YtnbpdffdnphbeabGreatDoor
