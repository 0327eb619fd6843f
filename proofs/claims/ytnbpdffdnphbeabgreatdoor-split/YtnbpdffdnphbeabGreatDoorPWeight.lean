import Derived.Test.YtnbpdffdnphbeabGreatDoorPut
namespace Go.Proofs.YtnbpdffdnphbeabGreatDoor
def tS(x:xE):Bool:=x.starred&&decide (9<x.num)
def pp(ts:sS)(len:Nat):List PT:=ts.map (fun t=>⟨yJ t.2,t.2,kL t.2,t.1⟩)++[⟨0,[],0,len⟩]
def tA(ts:sS)(i:Nat):Bs:=(ts.getD i (0,[])).2
def cA(ts:sS)(i:Nat):Bs:=nZ (tA ts i)
def FA(ts:sS)(len:Nat)(i:Nat)(st:Bs)(op:Int):Int:=zAB len (ts.drop i) st op
abbrev zHV(c:Bs):Prop:=c≠Qi/\c≠dR/\c≠kJ/\c≠vK/\c≠cW/\c≠vG
def uq:sS->zGS->zGS
 | [],st=>st
 | t::r,st=>uq r (Y3 t.2 st)
abbrev lf(N:List zT)(a:Int):Int:=(pM N a.toNat).left
abbrev rg(N:List zT)(a:Int):Int:=(pM N a.toNat).right
def zKO(x:zT)(u:sS):Prop :=
 (x.kind=4/\∃t,u=[t]/\nZ t.2=[97,108,119,97,121,115]) \/
 (x.kind=5/\∃t s,u=[t,s]/\nZ t.2=[104,97,115]/\nZ s.2=Vm/\x.name=s.2) \/
 (x.kind=6/\∃t,u=[t]/\nZ t.2=Vm/\x.name=t.2) \/
 (x.kind=7/\∃t m s,u=[t,m,s]/\nZ t.2=Vm/\x.name=t.2/\m.2∈eD/\x.mark=m.2/\((nZ s.2=Dl/\x.other=[]/\x.num=lO 0 s.2)\/(nZ s.2=Vm/\x.other=s.2/\s.2≠[])))
def zKP(N:List zT)(a:Int)(u:sS):Prop:=0<=a/\a<N.length/\(4<=(pM N a.toNat).kind)/\(∀st,zJU (pM N a.toNat) st=uq u st)/\zKO (pM N a.toNat) u
def NegN(N:List zT)(a:Int):Prop:=0<=a/\a<N.length/\(pM N a.toNat).kind=3/\lf N a<a
def zKV(kd:Int)(N:List zT)(a:Int):Prop:=0<=a/\a<N.length/\(pM N a.toNat).kind=kd/\lf N a<a/\rg N a<a
def zHG(u:sS):Prop:=u≠[]/\∀t∈u,zHV (nZ t.2)
def negT(x:Bs × Int):Bs × Int:=([110,111,116,32]++(if 0<x.2 then brk x.1 else x.1),0)
def andT(x y:Bs × Int):Bs × Int:=((if x.2=2 then brk x.1 else x.1)++[32,97,110,100,32]++(if y.2=2 then brk y.1 else y.1),1)
def orT(x y:Bs × Int):Bs × Int:=(x.1++[32,111,114,32]++y.1,2)
structure Cl(R:Nat->sS->Bs × Int->List zT->Int->Prop):Prop where
 test:∀k u N a,zHG u->zKP N a u->R k u (zIO u,0) N a
 neg:∀k t u x N a,nZ t.2=vG->NegN N a->R 0 u x N (lf N a)->R k (t::u) (negT x) N a
 br:∀k o u c x N a,nZ o.2=vK->nZ c.2=kJ->R 2 u x N a->R k (o::(u++[c])) x N a
 and:∀k u t v x y N a,1<=k->nZ t.2=dR->zKV 2 N a->R 1 u x N (lf N a)->R 0 v y N (rg N a)->R k (u++t::v) (andT x y) N a
 or:∀k u t v x y N a,2<=k->nZ t.2=Qi->zKV 1 N a->R 2 u x N (lf N a)->R 1 v y N (rg N a)->R k (u++t::v) (orT x y) N a
def Gr(k:Nat)(u:sS)(x:Bs × Int)(N:List zT)(a:Int):Prop:=∀R,Cl R->R k u x N a
abbrev TT(ts:sS)(i:Nat):Nat × Bs:=ts.getD i (0,[])
end Go.Proofs.YtnbpdffdnphbeabGreatDoor
