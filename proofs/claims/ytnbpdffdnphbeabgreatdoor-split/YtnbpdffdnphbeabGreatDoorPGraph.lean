import Derived.Test.YtnbpdffdnphbeabGreatDoorPure5
import Derived.BigQuiet
namespace Go.Proofs.YtnbpdffdnphbeabGreatDoor
variable{G:List Bool}{b a:Nat}(n:Nat)
def TC(M:Nat->Nat->Prop)(a b:Nat):Prop:=∀R:Nat->Nat->Prop,(∀x y,M x y->R x y)->(∀x y z,R x y->R y z->R x z)->R a b
theorem TC.one{M:Nat->Nat->Prop}(h:M a b):TC M a b:=fun _ h1 _=>h1 _ _ h
theorem TC.trans{M:Nat->Nat->Prop}{c:Nat}(h:TC M a b)(h':TC M b c):TC M a c:=fun R h1 h2=>h2 _ _ _ (h R h1 h2) (h' R h1 h2)
def gA(G:List Bool)(a b:Nat):Bool:=G.getD (a*8+b) false
def wS(q:Nat)(G:List Bool):List Bool:=if gA G (q%64/8) (q/64)&&gA G (q/64) (q%8) then G.set (q%64) true else G
def wA:Nat->Nat->List Bool->List Bool
 | 0,_,G=>G
 | n+1,q,G=>wA n (q+1) (wS q G)
def yB(G:List Bool):List Bool:=wA 512 0 G
theorem zH4(q:Nat)(G:List Bool):(wS q G).length=G.length:=by unfold wS;split <;> simp
theorem oD:∀q G,(wA n q G).length=G.length:=by
 induction n with
 | zero=>intro q G;rfl
 | succ n ih=>intro q G;rw[wA,ih,zH4]
theorem yi:∀m q G,wA (n+m) q G=wA m (q+n) (wA n q G):=by
 induction n with
 | zero=>intro m q G;simp[wA]
 | succ n ih=>intro m q G;rw[show n+1+m=(n+m)+1 by omega,wA,wA,ih,show q+1+n=q+(n+1) by omega]
theorem BY(hl:G.length=64){p:Nat}(hp:p<64):gA (G.set p true) a b=(gA G a b || decide (a*8+b=p)):=by
 unfold gA;simp only[pd,List.getElem?_set];by_cases h:p=a*8+b
 ·subst h;simp[hl,hp]
 ·rw[tb h,ty (fun e=>h e.symm),Bool.or_false]
theorem zH5(hl:G.length=64){m:Nat}(hm:m<8)(p:Nat):p<=64->∀a b,a<8->b<8->gA (wA p (m*64) G) a b=(gA G a b || (decide (a*8+b<p)&&(gA G a m&&gA G m b))):=by
 induction p with
 | zero=>intro _ a b _ _;simp[wA]
 | succ p ih =>
   intro hp a b ha hb;have ih:=ih (by omega);rw[yi p 1,wA,wA];have e1:(m*64+p)%64=p:=by omega
   have e2:(m*64+p)/64=m:=by omega
   have e3:(m*64+p)%8=p%8:=by omega
   unfold wS;rw[e1,e2,e3];have hl2:(wA p (m*64) G).length=64:=by rw[oD,hl]
   have k1:=ih (p/8) m (by omega) hm;have k2:=ih m (p%8) hm (by omega);have k3:=ih a b ha hb;generalize wA p (m*64) G=H at *;have c1:gA H (p/8) m=gA G (p/8) m:=by rw[k1];cases gA G (p/8) m <;> simp
   have c2:gA H m (p%8)=gA G m (p%8):=by rw[k2];cases gA G m (p%8) <;> simp
   rw[c1,c2];by_cases hab:a*8+b=p
   ·have ea:p/8=a:=by omega
    have eb:p%8=b:=by omega
    rw[ea,eb];have d1:decide (a*8+b<p+1)=true:=by simp;omega
    rw[d1];split
    ·rename_i h;rw[BY hl2 (by omega),k3,h];simp[hab]
    ·rename_i h;rw[k3];have:(gA G a m&&gA G m b)=false:=by simpa using h
     rw[this];simp
   ·have d1:decide (a*8+b<p+1)=decide (a*8+b<p):=by by_cases h:a*8+b<p <;> simp[h] <;> omega
    rw[d1,<-k3];split
    ·rw[BY hl2 (by omega),ty hab,Bool.or_false]
    ·rfl
theorem UA(hl:G.length=64){m:Nat}(hm:m<8)(ha:a<8)(hb:b<8):gA (wA 64 (m*64) G) a b=(gA G a b || (gA G a m&&gA G m b)):=by
 rw[zH5 hl hm 64 (j1 _) a b ha hb,tu (by omega:a*8+b<64),mz]
def Ke(G:List Bool)(a b:Nat):Prop:=a<8/\b<8/\gA G a b=true
theorem zCB(hl:G.length=64)(m:Nat):m<=8->(∀a b,Ke G a b->Ke (wA (m*64) 0 G) a b)/\(∀a b,Ke (wA (m*64) 0 G) a b->TC (Ke G) a b)/\(∀k,k<m->∀a b,Ke (wA (m*64) 0 G) a k->Ke (wA (m*64) 0 G) k b->Ke (wA (m*64) 0 G) a b):=by
 induction m with
 | zero=>intro _;refine⟨fun a b h=>by simpa[wA] using h,fun a b h=>TC.one (by simpa[wA] using h),fun k hk=>by omega⟩
 | succ m ih =>
   intro hm;obtain⟨i1,i2,i3⟩:=ih (by omega);rw[show (m+1)*64=m*64+64 by omega,yi,cx];have hl2:(wA (m*64) 0 G).length=64:=by rw[oD,hl]
   generalize wA (m*64) 0 G=H at *
   have key:∀a b,Ke (wA 64 (m*64) H) a b ↔ (Ke H a b\/Ke H a m/\Ke H m b):=by
    intro a b;constructor
    ·rintro⟨ha,hb,h⟩
     rw[UA hl2 (by omega) ha hb,ba,pq]at h;rcases h with h|⟨h,h'⟩
     ·exact .inl ⟨ha,hb,h⟩
     ·exact .inr ⟨⟨ha,by omega,h⟩,⟨by omega,hb,h'⟩⟩
    ·rintro(⟨ha,hb,h⟩|⟨⟨ha,_,h⟩,⟨_,hb,h'⟩⟩)
     ·exact⟨ha,hb,by rw[UA hl2 (by omega) ha hb,h];rfl⟩
     ·exact⟨ha,hb,by rw[UA hl2 (by omega) ha hb,h,h'];simp⟩
   refine⟨fun a b h=>(key a b).2 (.inl (i1 a b h)),fun a b h=>?_,fun k hk a b h1 h2=>?_⟩
   ·rcases(key a b).1 h with h|⟨h,h'⟩
    ·exact i2 _ _ h
    ·exact(i2 _ _ h).trans (i2 _ _ h')
   ·rw[key]at h1 h2 ⊢
    by_cases hkm:k=m
    ·subst hkm
     refine .inr ⟨?_,?_⟩
     ·rcases h1 with h1|h1
      ·exact h1
      ·exact h1.1
     ·rcases h2 with h2|h2
      ·exact h2
      ·exact h2.2
    ·have hk':k<m:=by omega
     rcases h1 with h1|⟨h1,h1'⟩ <;> rcases h2 with h2|⟨h2,h2'⟩
     ·exact .inl (i3 k hk' _ _ h1 h2)
     ·exact .inr ⟨i3 k hk' _ _ h1 h2,h2'⟩
     ·exact .inr ⟨h1,i3 k hk' _ _ h1' h2⟩
     ·exact .inr ⟨h1,h2'⟩
theorem eE(hl:G.length=64)(a b:Nat):Ke (yB G) a b ↔ TC (Ke G) a b:=by
 obtain⟨h1,h2,h3⟩:=zCB hl 8 (j1 _);refine⟨h2 a b,fun h=>h _ h1 (fun x y z h4 h5=>h3 y ?_ x z h4 h5)⟩;exact h4.2.1
def sZ(G:List Bool):Nat->Nat->Nat
 | 0,_=>8
 | n+1,a=>if gA G a a then a else sZ G n (a+1)
def oQ(G:List Bool):Nat:=sZ G 8 0
theorem zK5(G:List Bool)(n:Nat):∀a,a+n=8->sZ G n a<=8:=by
 induction n with
 | zero=>intro a _;exact j1 _
 | succ n ih=>intro a h;rw[sZ];split;· omega
              ·exact ih _ (by omega)
theorem ky(G:List Bool)(n:Nat):∀a,a+n=8->(sZ G n a<8 ↔ ∃b,a<=b/\b<8/\gA G b b=true):=by
 induction n with
 | zero=>intro a h;simp[sZ];intro b h1 h2;omega
 | succ n ih =>
   intro a h;rw[sZ];split
   ·rename_i hg;exact⟨fun _=>⟨a,j1 _,by omega,hg⟩,fun _=>by omega⟩
   ·rename_i hg
    rw[ih (a+1) (by omega)];constructor
    ·rintro⟨b,h1,h2,h3⟩;exact⟨b,by omega,h2,h3⟩
    ·rintro⟨b,h1,h2,h3⟩
     refine⟨b,?_,h2,h3⟩;rcases md a b with h4|h4
     ·exact h4
     ·exfalso;have:b=a:=by omega
      subst this;exact hg h3
def qS(G:List Bool):Bool:=decide (oQ (yB G)<8)
theorem Zd(hl:G.length=64):qS G=true ↔ ∃a,a<8/\TC (Ke G) a a:=by
 unfold qS oQ;rw[bq,ky _ 8 0 rfl];constructor
 ·rintro⟨b,_,h1,h2⟩;exact⟨b,h1,(eE hl b b).1 ⟨h1,h1,h2⟩⟩
 ·rintro⟨b,h1,h2⟩;exact⟨b,p7 _,h1,((eE hl b b).2 h2).2.2⟩
def Ym:zE:=⟨0,[],0,0,[],[],[],0,0,0,[]⟩
def lA(ls:List zE)(i:Nat):zE:=ls.getD i Ym
def Yd(k:Int):Int:=if k=1 then 3 else if k=2 then 3 else if k=3 then 8 else if k=4 then 28 else 0
def vC(k:Int):List zE->Nat
 | []=>0
 | x::r=>(if x.kind=k then 1 else 0)+vC k r
def tJ(S:List xE):Bool:=decide (4<S.length) || S.any tS
def Vq(x:zE):Bool:=decide (6<x.tests) || (decide (4<x.dep) || tJ x.sum)
def tH(ls:List zE)(i:Nat):Bool:=decide (Yd (lA ls i).kind<=(vC (lA ls i).kind (ls.take i):Int)) || (decide ((lA ls i).kind=3)&&Vq (lA ls i))
def Zl(k:Int)(nm:Bs)(x:zE):Bool:=decide (x.kind=k)&&decide (x.name=nm)
def D1(nm:Bs)(x:zE):Bool:=decide (x.kind=3)&&decide (x.conc=nm)
def uR(ls:List zE)(k:Int)(nm:Bs):Bool:=ls.any (Zl k nm)
def tP(ls:List zE)(nm:Bs):Bool:=ls.any (D1 nm)
def tR(p:zE->Bool):List zE->Nat->Nat
 | [],i=>i
 | x::r,i=>if p x then i else tR p r (i+1)
def uK(ls:List zE)(nm:Bs):Nat:=tR (Zl 3 nm) ls 0
def Q6(ls:List zE)(nm:Bs):Bool:=uR ls 1 nm || tP ls nm
def qL(ls:List zE)(x:xE):Bool:=decide (x.name=[]) || Q6 ls x.name
def vF(ls:List zE)(x:zT):Bool :=
 if x.kind=5 then tP ls x.name else if x.kind=6 then uR ls 2 x.name else if x.kind=7 then (decide (x.other=[]) || uR ls 1 x.other)&&uR ls 1 x.name else true
def fY(ls:List zE)(i:Nat):Int:=if uR (ls.take i) 1 (lA ls i).name || (uR (ls.take i) 2 (lA ls i).name || tP ls (lA ls i).name) then 4 else 0
def iE(ls:List zE)(i:Nat):Int:=if fY ls i=0 then (if (lA ls i).high<(lA ls i).low then 5 else 0) else fY ls i
def lP(ls:List zE)(i:Nat):Int:=if uR (ls.take i) 3 (lA ls i).name || ((lA ls i).sum.any (fun x => !qL ls x) || (lA ls i).nd.any (fun x => !vF ls x)) then 4 else 0
def cS(ls:List zE)(x:zE):Int :=
 if uK ls x.name=ls.length\/uK ls x.lower=ls.length then 4
 else if x.name=x.lower\/(lA ls (uK ls x.name)).conc≠(lA ls (uK ls x.lower)).conc then 6 else 0
def mM(ls:List zE)(i:Nat):Int :=
 if (lA ls i).kind=1 then iE ls i else if (lA ls i).kind=2 then fY ls i else if (lA ls i).kind=3 then lP ls i else if (lA ls i).kind=4 then cS ls (lA ls i) else 0
theorem VQ(p:zE->Bool)(ls:List zE):∀i,i<=tR p ls i/\tR p ls i<=i+ls.length:=by
 induction ls with
 | nil=>intro i;simp[tR]
 | cons x r ih=>intro i;rw[tR];split
                ·simp
                ·have:=ih (i+1);simp only[pf];omega
theorem G5(p:zE->Bool)(ls:List zE):∀i,tR p ls i<i+ls.length->p (lA ls (tR p ls i-i))=true:=by
 induction ls with
 | nil=>intro i h;simp[tR]at h
 | cons x r ih =>
   intro i h;rw[tR]at h ⊢;split
   ·rename_i hp;simpa[lA] using hp
   ·rename_i hp
    rw[tb hp]at h;have h1:=(VQ p r (i+1)).1;have:=ih (i+1) (by rw[pf]at h;omega);rw[show tR p r (i+1)-i=(tR p r (i+1)-(i+1))+1 by omega];exact this
open Go.RowKit
theorem yQ{w:World}{g o:Nat}{v:Value}(h:w.cell? ⟨g,o,none⟩=some v):g<w.heap.size:=by
 rcases md g w.heap.size with h1|h1
 ·exact h1
 ·rw[World.cell?,mc (by simpa using h1)]at h;cases h
end Go.Proofs.YtnbpdffdnphbeabGreatDoor
