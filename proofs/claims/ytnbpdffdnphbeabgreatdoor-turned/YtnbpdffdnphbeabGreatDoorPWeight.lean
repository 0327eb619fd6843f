import Derived.Test.YtnbpdffdnphbeabGreatDoorPut
namespace Go.Proofs.YtnbpdffdnphbeabGreatDoor
def tZ(x:xI):Bool:=x.starred&&decide (9<x.num)
def pp(ts:aM)(len:Nat):List PT:=ts.map (fun t=>⟨yI t.2,t.2,kQ t.2,t.1⟩)++[⟨0,[],0,len⟩]
def tA(ts:aM)(i:Nat):Bs:=(ts.getD i (0,[])).2
def cA(ts:aM)(i:Nat):Bs:=oL (tA ts i)
def FA(ts:aM)(len:Nat)(i:Nat)(st:Bs)(op:Int):Int:=zB6 len (ts.drop i) st op
abbrev zIM(c:Bs):Prop:=c≠Q8/\c≠dQ/\c≠kM/\c≠vO/\c≠cU/\c≠vK
def j4:aM->zHK->zHK
 | [],st=>st
 | t::r,st=>j4 r (YK t.2 st)
abbrev lf(N:List zR)(a:Int):Int:=(pP N a.toNat).left
abbrev rg(N:List zR)(a:Int):Int:=(pP N a.toNat).right
def zL8(x:zR)(u:aM):Prop :=
 (x.kind=4/\∃t,u=[t]/\oL t.2=[97,108,119,97,121,115]) \/
 (x.kind=5/\∃t s,u=[t,s]/\oL t.2=[104,97,115]/\oL s.2=VA/\x.name=s.2) \/
 (x.kind=6/\∃t,u=[t]/\oL t.2=VA/\x.name=t.2) \/
 (x.kind=7/\∃t m s,u=[t,m,s]/\oL t.2=VA/\x.name=t.2/\m.2∈iD/\x.mark=m.2/\((oL s.2=D7/\x.other=[]/\x.num=lP 0 s.2)\/(oL s.2=VA/\x.other=s.2/\s.2≠[])))
def zL9(N:List zR)(a:Int)(u:aM):Prop:=0<=a/\a<N.length/\(4<=(pP N a.toNat).kind)/\(∀st,zKH (pP N a.toNat) st=j4 u st)/\zL8 (pP N a.toNat) u
def NegN(N:List zR)(a:Int):Prop:=0<=a/\a<N.length/\(pP N a.toNat).kind=3/\lf N a<a
def zLH(kd:Int)(N:List zR)(a:Int):Prop:=0<=a/\a<N.length/\(pP N a.toNat).kind=kd/\lf N a<a/\rg N a<a
def zI8(u:aM):Prop:=u≠[]/\∀t∈u,zIM (oL t.2)
def negT(x:Bs × Int):Bs × Int:=([110,111,116,32]++(if 0<x.2 then brk x.1 else x.1),0)
def andT(x y:Bs × Int):Bs × Int:=((if x.2=2 then brk x.1 else x.1)++[32,97,110,100,32]++(if y.2=2 then brk y.1 else y.1),1)
def orT(x y:Bs × Int):Bs × Int:=(x.1++[32,111,114,32]++y.1,2)
structure Cl(R:Nat->aM->Bs × Int->List zR->Int->Prop):Prop where
 test:∀k u N a,zI8 u->zL9 N a u->R k u (zJF u,0) N a
 neg:∀k t u x N a,oL t.2=vK->NegN N a->R 0 u x N (lf N a)->R k (t::u) (negT x) N a
 br:∀k o u c x N a,oL o.2=vO->oL c.2=kM->R 2 u x N a->R k (o::(u++[c])) x N a
 and:∀k u t v x y N a,1<=k->oL t.2=dQ->zLH 2 N a->R 1 u x N (lf N a)->R 0 v y N (rg N a)->R k (u++t::v) (andT x y) N a
 or:∀k u t v x y N a,2<=k->oL t.2=Q8->zLH 1 N a->R 2 u x N (lf N a)->R 1 v y N (rg N a)->R k (u++t::v) (orT x y) N a
def Gr(k:Nat)(u:aM)(x:Bs × Int)(N:List zR)(a:Int):Prop:=∀R,Cl R->R k u x N a
abbrev TT(ts:aM)(i:Nat):Nat × Bs:=ts.getD i (0,[])
end Go.Proofs.YtnbpdffdnphbeabGreatDoor
