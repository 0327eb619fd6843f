import Derived.Test.YtnbpdffdnphbeabGreatDoorPut
namespace Go.Proofs.YtnbpdffdnphbeabGreatDoor
variable{x:Bs × Int}{a:Int}{N:List zM}{k:Nat}{u:vL}
def C6(a b:Int × Int):Int × Int:=(a.1+b.1,if a.2<b.2 then b.2 else a.2)
def mX:Nat->vL->Int × Int
 | 0,_=>(0,0)
 | n+1,ts =>
   if 0<=eW ts rU then C6 (mX n (ts.take (eW ts rU).toNat)) (mX n (ts.drop ((eW ts rU).toNat+1)))
   else if 0<=eW ts tP then C6 (mX n (ts.take (eW ts tP).toNat)) (mX n (ts.drop ((eW ts tP).toNat+1)))
   else if uS (ts.getD 0 (0,[])).2=xR then ((mX n (ts.drop 1)).1,(mX n (ts.drop 1)).2+1)
   else if uS (ts.getD 0 (0,[])).2=xQ then ((mX n ((ts.drop 1).take (ts.length-2))).1,(mX n ((ts.drop 1).take (ts.length-2))).2+1)
   else (1,0)
def zDB(r:vL)(nx:Bs):Bs:=match r with | []=>nx|s::_=>uS s.2
def zDD(p nx:Bs):Nat:=if p=[104,97,115] then 1 else if p∈gO\/nx∈gO then 2 else 3
def ji:Bs->vL->Bs->List (Nat × Bs)
 | _,[],_=>[]
 | p,t::r,nx=>(if uS t.2=rK then [(zDD p (zDB r nx),t.2)] else [])++ji (uS t.2) r nx
def zD9(x:zM):List (Nat × Bs) :=
 if x.kind=5 then [(1,x.name)] else if x.kind=6 then [(3,x.name)] else if x.kind=7 then (2,x.name)::(if x.other=[] then [] else [(2,x.other)]) else []
def zAZ(N:List zM):List (Nat × Bs):=N.flatMap zD9
def jh:vL->List (Nat × Bs)
 | []=>[]
 | t::r=>(if uS t.2=rK then [(0,t.2)] else [])++jh r
def js:vL->Nat
 | []=>0
 | t::r=>(if uS t.2=[43]\/uS t.2=[45] then 1 else 0)+js r
def zDR:Bs->vL->Bool
 | _,[]=>false
 | p,t::r=>(decide (uS t.2=[42])&&decide (9<jT 0 p)) || zDR t.2 r
def zD5(x:yT):List (Nat × Bs):=if x.name=[] then [] else [(0,x.name)]
def kX(x:yT):Bool:=x.starred&&decide (9<x.num)
def pp(ts:vL)(len:Nat):List PT:=ts.map (fun t=>⟨yC t.2,t.2,qM t.2,t.1⟩)++[⟨0,[],0,len⟩]
def tA(ts:vL)(i:Nat):Bs:=(ts.getD i (0,[])).2
def cA(ts:vL)(i:Nat):Bs:=uS (tA ts i)
def FA(ts:vL)(len:Nat)(i:Nat)(st:Bs)(op:Int):Int:=FF len (ts.drop i) st op
abbrev zAU(c:Bs):Prop:=c≠rU/\c≠tP/\c≠uV/\c≠xQ/\c≠lW/\c≠xR
def Du:vL->G9->G9
 | [],st=>st
 | t::r,st=>Du r (iY t.2 st)
theorem rL{M:List zM}{a:Nat}(h:a<N.length):qR (N++M) a=qR N a:=by
 unfold qR;rw[List.getD,pm h];rfl
abbrev lf(N:List zM)(a:Int):Int:=(qR N a.toNat).left
abbrev rg(N:List zM)(a:Int):Int:=(qR N a.toNat).right
def zDY(x:zM)(u:vL):Prop :=
 (x.kind=4/\∃t,u=[t]/\uS t.2=[97,108,119,97,121,115]) \/
 (x.kind=5/\∃t s,u=[t,s]/\uS t.2=[104,97,115]/\uS s.2=rK/\x.name=s.2) \/
 (x.kind=6/\∃t,u=[t]/\uS t.2=rK/\x.name=t.2) \/
 (x.kind=7/\∃t m s,u=[t,m,s]/\uS t.2=rK/\x.name=t.2/\m.2∈gO/\x.mark=m.2/\((uS s.2=dG/\x.other=[]/\x.num=jT 0 s.2)\/(uS s.2=rK/\x.other=s.2/\s.2≠[])))
def jy(N:List zM)(a:Int)(u:vL):Prop:=0<=a/\a<N.length/\(4<=(qR N a.toNat).kind)/\(∀st,zCW (qR N a.toNat) st=Du u st)/\zDY (qR N a.toNat) u
def zDZ(N:List zM)(a:Int):Prop:=0<=a/\a<N.length/\(qR N a.toNat).kind=3/\lf N a<a
def j3(kd:Int)(N:List zM)(a:Int):Prop:=0<=a/\a<N.length/\(qR N a.toNat).kind=kd/\lf N a<a/\rg N a<a
def CT(u:vL):Prop:=u≠[]/\∀t∈u,zAU (uS t.2)
def zDC(x:Bs × Int):Bs × Int:=([110,111,116,32]++(if 0<x.2 then brk x.1 else x.1),0)
def zDV(x y:Bs × Int):Bs × Int:=((if x.2=2 then brk x.1 else x.1)++[32,97,110,100,32]++(if y.2=2 then brk y.1 else y.1),1)
def orT(x y:Bs × Int):Bs × Int:=(x.1++[32,111,114,32]++y.1,2)
structure Cl(R:Nat->vL->Bs × Int->List zM->Int->Prop):Prop where
 test:∀k u N a,CT u->jy N a u->R k u (F9 u,0) N a
 neg:∀k t u x N a,uS t.2=xR->zDZ N a->R 0 u x N (lf N a)->R k (t::u) (zDC x) N a
 br:∀k o u c x N a,uS o.2=xQ->uS c.2=uV->R 2 u x N a->R k (o::(u++[c])) x N a
 and:∀k u t v x y N a,1<=k->uS t.2=tP->j3 2 N a->R 1 u x N (lf N a)->R 0 v y N (rg N a)->R k (u++t::v) (zDV x y) N a
 or:∀k u t v x y N a,2<=k->uS t.2=rU->j3 1 N a->R 2 u x N (lf N a)->R 1 v y N (rg N a)->R k (u++t::v) (orT x y) N a
def Gr(k:Nat)(u:vL)(x:Bs × Int)(N:List zM)(a:Int):Prop:=∀R,Cl R->R k u x N a
theorem Yn:Cl Gr:={
 test:=fun k u N a h1 h2 _ c=>c.test k u N a h1 h2
 neg:=fun k t u x N a h1 h2 h _ c=>c.neg k t u x N a h1 h2 (h _ c)
 br:=fun k o u e x N a h1 h2 h _ c=>c.br k o u e x N a h1 h2 (h _ c)
 and:=fun k u t v x y N a h1 h2 h3 h h' _ c=>c.and k u t v x y N a h1 h2 h3 (h _ c) (h' _ c)
 or:=fun k u t v x y N a h1 h2 h3 h h' _ c=>c.or k u t v x y N a h1 h2 h3 (h _ c) (h' _ c) }
theorem Gr.ind{R:Nat->vL->Bs × Int->List zM->Int->Prop}
 (test:∀k u N a,CT u->jy N a u->R k u (F9 u,0) N a)
 (neg:∀k t u x N a,uS t.2=xR->zDZ N a->Gr 0 u x N (lf N a)->R 0 u x N (lf N a)->R k (t::u) (zDC x) N a)
 (br:∀k o u c x N a,uS o.2=xQ->uS c.2=uV->Gr 2 u x N a->R 2 u x N a->R k (o::(u++[c])) x N a)
 (and:∀k u t v x y N a,1<=k->uS t.2=tP->j3 2 N a->Gr 1 u x N (lf N a)->Gr 0 v y N (rg N a)->R 1 u x N (lf N a)->R 0 v y N (rg N a)->R k (u++t::v) (zDV x y) N a)
 (or:∀k u t v x y N a,2<=k->uS t.2=rU->j3 1 N a->Gr 2 u x N (lf N a)->Gr 1 v y N (rg N a)->R 2 u x N (lf N a)->R 1 v y N (rg N a)->R k (u++t::v) (orT x y) N a) (h:Gr k u x N a):R k u x N a :=
 (h (fun k u x N a=>Gr k u x N a/\R k u x N a) {
  test:=fun k u N a h1 h2=>⟨Yn.test k u N a h1 h2,test k u N a h1 h2⟩
  neg:=fun k t u x N a h1 h2 h=>⟨Yn.neg k t u x N a h1 h2 h.1,neg k t u x N a h1 h2 h.1 h.2⟩
  br:=fun k o u c x N a h1 h2 h=>⟨Yn.br k o u c x N a h1 h2 h.1,br k o u c x N a h1 h2 h.1 h.2⟩
  and:=fun k u t v x y N a h1 h2 h3 h h'=>⟨Yn.and k u t v x y N a h1 h2 h3 h.1 h'.1,and k u t v x y N a h1 h2 h3 h.1 h'.1 h.2 h'.2⟩
  or:=fun k u t v x y N a h1 h2 h3 h h'=>⟨Yn.or k u t v x y N a h1 h2 h3 h.1 h'.1,or k u t v x y N a h1 h2 h3 h.1 h'.1 h.2 h'.2⟩ }).2
section gr
variable {k:Nat} {u:vL} {x:Bs × Int} {N:List zM} {a:Int}
end gr
theorem iN{M:List zM}(h:a<N.length):a<((N++M).length:Int):=by simp only[tb];omega
theorem Gr.ext(h:Gr k u x N a)(M:List zM):Gr k u x (N++M) a:=by
 refine Gr.ind (R:=fun k u x N a=>Gr k u x (N++M) a) ?_ ?_ ?_ ?_ ?_ h
 ·intro k u N a h1 h
  have e:qR (N++M) a.toNat=qR N a.toNat:=rL (by have:=h.1;have:=h.2.1;omega);refine Yn.test _ _ _ _ h1 ⟨h.1,iN h.2.1,?_⟩;rw[e];exact h.2.2
 ·intro k t u x N a h1 h _ ih
  have e:qR (N++M) a.toNat=qR N a.toNat:=rL (by have:=h.1;have:=h.2.1;omega);have el:lf (N++M) a=lf N a:=by unfold lf;rw[e]
  exact Yn.neg _ _ _ _ _ _ h1 ⟨h.1,iN h.2.1,by rw[e];exact h.2.2.1,by rw[el];exact h.2.2.2⟩ (by rw[el];exact ih)
 ·intro k o u c x N a h1 h2 _ ih;exact Yn.br _ _ _ _ _ _ _ h1 h2 ih
 ·intro k u t v x y N a h1 h2 h _ _ ihu ihv
  have e:qR (N++M) a.toNat=qR N a.toNat:=rL (by have:=h.1;have:=h.2.1;omega);have el:lf (N++M) a=lf N a:=by unfold lf;rw[e]
  have er:rg (N++M) a=rg N a:=by unfold rg;rw[e]
  exact Yn.and _ _ _ _ _ _ _ _ h1 h2 ⟨h.1,iN h.2.1,by rw[e];exact h.2.2.1,by rw[el];exact h.2.2.2.1,by rw[er];exact h.2.2.2.2⟩ (by rw[el];exact ihu) (by rw[er];exact ihv)
 ·intro k u t v x y N a h1 h2 h _ _ ihu ihv
  have e:qR (N++M) a.toNat=qR N a.toNat:=rL (by have:=h.1;have:=h.2.1;omega);have el:lf (N++M) a=lf N a:=by unfold lf;rw[e]
  have er:rg (N++M) a=rg N a:=by unfold rg;rw[e]
  exact Yn.or _ _ _ _ _ _ _ _ h1 h2 ⟨h.1,iN h.2.1,by rw[e];exact h.2.2.1,by rw[el];exact h.2.2.2.1,by rw[er];exact h.2.2.2.2⟩ (by rw[el];exact ihu) (by rw[er];exact ihv)
theorem Gr.kind(h:Gr k u x N a):((qR N a.toNat).kind=1/\x.2=2)\/((qR N a.toNat).kind=2/\x.2=1)\/(¬(qR N a.toNat).kind=1/\¬(qR N a.toNat).kind=2/\x.2=0):=by
 refine Gr.ind (R:=fun _ _ x N a=>((qR N a.toNat).kind=1/\x.2=2)\/((qR N a.toNat).kind=2/\x.2=1)\/(¬(qR N a.toNat).kind=1/\¬(qR N a.toNat).kind=2/\x.2=0)) ?_ ?_ ?_ ?_ ?_ h
 ·intro k u N a _ h;have h3:=h.2.2.1;exact .inr (.inr ⟨by omega,by omega,rfl⟩)
 ·intro k t u x N a _ h _ _;have h3:=h.2.2.1;exact .inr (.inr ⟨by omega,by omega,rfl⟩)
 ·intro k o u c x N a _ _ _ ih;exact ih
 ·intro k u t v x y N a _ _ h _ _ _ _;exact .inr (.inl ⟨h.2.2.1,rfl⟩)
 ·intro k u t v x y N a _ _ h _ _ _ _;exact .inl ⟨h.2.2.1,rfl⟩
def GD(s:Bs):Prop:=s≠[]/\(so (s.getD 0 0)=2->∀c∈s,so c=2)
def GC(ts:vL):Prop:=∀t∈ts,GD t.2
theorem GC.at'{ts:vL}(h:GC ts){i:Nat}(hi:i<ts.length):GD (tA ts i):=by
 unfold tA;rw[List.getD,p9 hi];exact h _ (cg hi)
abbrev TT(ts:vL)(i:Nat):Nat × Bs:=ts.getD i (0,[])
theorem DD(N:List zM)(z:zM):qR (N++[z]) N.length=z:=by
 unfold qR;simp[List.getD]
def zAW(z:zM)(a:Int):Prop :=
 (z.kind=1->0<=z.left/\z.left<a/\0<=z.right/\z.right<a) /\
 (z.kind=2->0<=z.left/\z.left<a/\0<=z.right/\z.right<a) /\
 (z.kind=3->0<=z.left/\z.left<a) /\
 (¬z.kind=1->¬z.kind=2->¬z.kind=3->(4<=z.kind/\z.kind<=7)/\0<=z.num/\z.num<=9999)
theorem pD.add{z:zM}(h:pD N)(hz:zAW z N.length):pD (N++[z]):=by
 intro a ha;rcases pf a N.length with h1|h1
 ·rw[rL h1];exact h a h1
 ·have e:a=N.length:=by rw[tb,pj]at ha;omega
  subst e;rw[DD];exact hz
def WtIs(u:vL)(y:Int × Int):Prop:=∀n,u.length<n->mX n u=y
end Go.Proofs.YtnbpdffdnphbeabGreatDoor
