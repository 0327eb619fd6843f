import Derived.Test.YtnbpdffdnphbeabGreatDoorPure5
import Derived.BigQuiet
namespace Go.Proofs.YtnbpdffdnphbeabGreatDoor
variable{G:List Bool}{b a:Nat}(n:Nat)
def TC(M:Nat->Nat->Prop)(a b:Nat):Prop:=∀R:Nat->Nat->Prop,(∀x y,M x y->R x y)->(∀x y z,R x y->R y z->R x z)->R a b
theorem TC.one{M:Nat->Nat->Prop}(h:M a b):TC M a b:=λ_ h1 _=>h1 _ _ h
theorem TC.trans{M:Nat->Nat->Prop}{c:Nat}(h:TC M a b)(h':TC M b c):TC M a c:=λR h1 h2=>h2 _ _ _ (h R h1 h2) (h' R h1 h2)
def gA(G:List Bool)(a b:Nat):Bool:=G.getD (a*8+b) false
def wS(q:Nat)(G:List Bool):List Bool:=if gA G (q%64/8) (q/64)&&gA G (q/64) (q%8) then G.set (q%64) true else G
def wA:Nat->Nat->List Bool->List Bool
 | 0,_,G=>G
 | n+1,q,G=>wA n (q+1) (wS q G)
def zT(G:List Bool):List Bool:=wA 512 0 G
theorem ND(q:Nat)(G:List Bool):(wS q G).length=G.length:=by unfold wS;split <;> simp
theorem gW:∀q G,(wA n q G).length=G.length:=by
 induction n with
 | zero=>intro q G;rfl
 | succ n ih=>intro q G;rw[wA,ih,ND]
theorem I':∀m q G,wA (n+m) q G=wA m (q+n) (wA n q G):=by
 induction n with
 | zero=>intro m q G;simp[wA]
 | succ n ih=>intro m q G;rw[show n+1+m=(n+m)+1 by omega,wA,wA,ih,show q+1+n=q+(n+1) by omega]
theorem DE(hl:G.length=64){p:Nat}(hp:p<64:=by omega):gA (G.set p true) a b=(gA G a b || decide (a*8+b=p)):=by
 unfold gA;simp only[mq,List.getElem?_set];by_cases h:p=a*8+b
 ·subst h;simp[hl,hp]
 ·rw[tj h,ty (λe=>h e.symm),Bool.or_false]
theorem NC(hl:G.length=64){m:Nat}(hm:m<8)(p:Nat):p<=64->∀a b,a<8->b<8->gA (wA p (m*64) G) a b=(gA G a b || (decide (a*8+b<p)&&(gA G a m&&gA G m b))):=by
 induction p with
 | zero=>intro _ a b _ _;simp[wA]
 | succ p ih =>
   intro hp a b ha hb;have ih:=ih (by omega);rw[I' p 1,wA,wA];have e1:(m*64+p)%64=p:=by omega
   have e2:(m*64+p)/64=m:=(by omega);have e3:(m*64+p)%8=p%8:=(by omega);unfold wS;rw[e1,e2,e3];have aA:(wA p (m*64) G).length=64:=(by rw[gW,hl]);have k1:=ih (p/8) m (by omega) hm;have k2:=ih m (p%8) hm (by omega);have k3:=ih a b ha hb;generalize wA p (m*64) G=H at *;have c1:gA H (p/8) m=gA G (p/8) m:=(by rw[k1];cases gA G (p/8) m <;> simp);have c2:gA H m (p%8)=gA G m (p%8):=(by rw[k2];cases gA G m (p%8) <;> simp);rw[c1,c2];by_cases aC:a*8+b=p
   ·have ea:p/8=a:=by omega
    have eb:p%8=b:=(by omega);rw[ea,eb];have d1:decide (a*8+b<p+1)=true:=(by simp;omega);rw[d1];split
    ·rename_i h;rw[DE aA,k3,h];simp[aC]
    ·rename_i h;rw[k3];have:(gA G a m&&gA G m b)=false:=by simpa using h
     rw[this];simp
   ·have d1:decide (a*8+b<p+1)=decide (a*8+b<p):=by by_cases h:a*8+b<p <;> simp[h] <;> omega
    rw[d1,<-k3];split
    ·rw[DE aA,ty aC,Bool.or_false]
    ·rfl
theorem Ch(hl:G.length=64){m:Nat}(hm:m<8)(ha:a<8)(hb:b<8):gA (wA 64 (m*64) G) a b=(gA G a b || (gA G a m&&gA G m b)):=by
 rw[NC hl hm 64 (tg _) a b ha hb,tz (by omega:a*8+b<64),bm]
def B7(G:List Bool)(a b:Nat):Prop:=a<8/\b<8/\gA G a b=true
theorem PK(hl:G.length=64)(m:Nat):m<=8->(∀a b,B7 G a b->B7 (wA (m*64) 0 G) a b)/\(∀a b,B7 (wA (m*64) 0 G) a b->TC (B7 G) a b)/\(∀k,k<m->∀a b,B7 (wA (m*64) 0 G) a k->B7 (wA (m*64) 0 G) k b->B7 (wA (m*64) 0 G) a b):=by
 induction m with
 | zero=>intro _;refine⟨λa b h=>by simpa[wA] using h,λa b h=>TC.one (by simpa[wA] using h),λk hk=>by omega⟩
 | succ m ih =>
   intro hm;obtain⟨i1,i2,i3⟩:=ih (by omega);rw[show (m+1)*64=m*64+64 by omega,I',cw];have aA:(wA (m*64) 0 G).length=64:=by rw[gW,hl]
   generalize wA (m*64) 0 G=H at *
   have key:∀a b,B7 (wA 64 (m*64) H) a b ↔ (B7 H a b\/B7 H a m/\B7 H m b):=by
    intro a b;constructor
    ·rintro⟨ha,hb,h⟩
     rw[Ch aA (by omega) ha hb,ce,ma]at h;rcases h with h|⟨h,h'⟩
     ·exact .inl ⟨ha,hb,h⟩
     ·exact .inr ⟨⟨ha,by omega,h⟩,⟨by omega,hb,h'⟩⟩
    ·rintro(⟨ha,hb,h⟩|⟨⟨ha,_,h⟩,⟨_,hb,h'⟩⟩)
     ·exact⟨ha,hb,by rw[Ch aA (by omega) ha hb,h];rfl⟩
     ·exact⟨ha,hb,by rw[Ch aA (by omega) ha hb,h,h'];simp⟩
   refine⟨λa b h=>(key a b).2 (.inl (i1 a b h)),λa b h=>?_,λk hk a b h1 h2=>?_⟩
   ·rcases(key a b).1 h with h|⟨h,h'⟩
    ·exact i2 _ _ h
    ·exact(i2 _ _ h).trans (i2 _ _ h')
   ·rw[key]at h1 h2 ⊢
    by_cases aD:k=m
    ·subst aD
     refine .inr ⟨?_,?_⟩
     ·rcases h1 with h1|h1
      ·exact h1
      ·exact h1.1
     ·rcases h2 with h2|h2
      ·exact h2
      ·exact h2.2
    ·have aB:k<m:=by omega
     rcases h1 with h1|⟨h1,h1'⟩ <;> rcases h2 with h2|⟨h2,h2'⟩
     ·exact .inl (i3 k aB _ _ h1 h2)
     ·exact .inr ⟨i3 k aB _ _ h1 h2,h2'⟩
     ·exact .inr ⟨h1,i3 k aB _ _ h1' h2⟩
     ·exact .inr ⟨h1,h2'⟩
theorem wP(hl:G.length=64)(a b:Nat):B7 (zT G) a b ↔ TC (B7 G) a b:=by
 obtain⟨h1,h2,h3⟩:=PK hl 8 (tg _);refine⟨h2 a b,λh=>h _ h1 (λx y z h4 h5=>h3 y ?_ x z h4 h5)⟩;exact h4.2.1
def eQ(G:List Bool):Nat->Nat->Nat
 | 0,_=>8
 | n+1,a=>if gA G a a then a else eQ G n (a+1)
def lH(G:List Bool):Nat:=eQ G 8 0
theorem Rt(G:List Bool)(n:Nat):∀a,a+n=8->eQ G n a<=8:=by
 induction n with
 | zero=>intro a _;exact tg _
 | succ n ih=>intro a h;rw[eQ];split;· omega
              ·exact ih _ (by omega)
theorem Ru(G:List Bool)(n:Nat):∀a,a+n=8->(eQ G n a<8 ↔ ∃b,a<=b/\b<8/\gA G b b=true):=by
 induction n with
 | zero=>intro a h;simp[eQ];intro b h1 h2;omega
 | succ n ih =>
   intro a h;rw[eQ];split
   ·rename_i hg;exact⟨λ_=>⟨a,tg _,by omega,hg⟩,λ_=>by omega⟩
   ·rename_i hg
    rw[ih (a+1) (by omega)];constructor
    ·rintro⟨b,h1,h2,h3⟩;exact⟨b,by omega,h2,h3⟩
    ·rintro⟨b,h1,h2,h3⟩
     refine⟨b,?_,h2,h3⟩;rcases mc a b with h4|h4
     ·exact h4
     ·exfalso;have:b=a:=by omega
      subst this;exact hg h3
def jA(G:List Bool):Bool:=decide (lH (zT G)<8)
theorem JO(hl:G.length=64):jA G=true ↔ ∃a,a<8/\TC (B7 G) a a:=by
 unfold jA lH;rw[cd,Ru _ 8 0 rfl];constructor
 ·rintro⟨b,_,h1,h2⟩;exact⟨b,h1,(wP hl b b).1 ⟨h1,h1,h2⟩⟩
 ·rintro⟨b,h1,h2⟩;exact⟨b,p8,h1,((wP hl b b).2 h2).2.2⟩
def Jn:zE:=⟨0,[],0,0,[],[],[],0,0,0,[]⟩
def lA(ls:List zE)(i:Nat):zE:=ls.getD i Jn
def Xb(k:Int):Int:=if k=1 then 3 else if k=2 then 3 else if k=3 then 8 else if k=4 then 28 else 0
def vS(k:Int):List zE->Nat
 | []=>0
 | x::r=>(if x.kind=k then 1 else 0)+vS k r
def mF(S:List yT):Bool:=decide (4<S.length) || S.any jD
def Ea(x:zE):Bool:=decide (6<x.tests) || (decide (4<x.dep) || mF x.sum)
def mA(ls:List zE)(i:Nat):Bool:=decide (Xb (lA ls i).kind<=(vS (lA ls i).kind (ls.take i):Int)) || (decide ((lA ls i).kind=3)&&Ea (lA ls i))
def Xs(k:Int)(nm:Bs)(x:zE):Bool:=decide (x.kind=k)&&decide (x.name=nm)
def Gm(nm:Bs)(x:zE):Bool:=decide (x.kind=3)&&decide (x.ae=nm)
def kX(ls:List zE)(k:Int)(nm:Bs):Bool:=ls.any (Xs k nm)
def mQ(ls:List zE)(nm:Bs):Bool:=ls.any (Gm nm)
def mC(p:zE->Bool):List zE->Nat->Nat
 | [],i=>i
 | x::r,i=>if p x then i else mC p r (i+1)
def uU(ls:List zE)(nm:Bs):Nat:=mC (Xs 3 nm) ls 0
def VZ(ls:List zE)(nm:Bs):Bool:=kX ls 1 nm || mQ ls nm
def tG(ls:List zE)(x:yT):Bool:=decide (x.name=[]) || VZ ls x.name
def uD(ls:List zE)(x:zJ):Bool :=
 if x.kind=5 then mQ ls x.name else if x.kind=6 then kX ls 2 x.name else if x.kind=7 then (decide (x.other=[]) || kX ls 1 x.other)&&kX ls 1 x.name else true
def nO(ls:List zE)(i:Nat):Int:=if kX (ls.take i) 1 (lA ls i).name || (kX (ls.take i) 2 (lA ls i).name || mQ ls (lA ls i).name) then 4 else 0
def Zu(ls:List zE)(i:Nat):Int:=if nO ls i=0 then (if (lA ls i).high<(lA ls i).low then 5 else 0) else nO ls i
def dT(ls:List zE)(i:Nat):Int:=if kX (ls.take i) 3 (lA ls i).name || ((lA ls i).sum.any (λx => !tG ls x) || (lA ls i).nd.any (λx => !uD ls x)) then 4 else 0
def dX(ls:List zE)(x:zE):Int :=
 if uU ls x.name=ls.length\/uU ls x.lower=ls.length then 4
 else if x.name=x.lower\/(lA ls (uU ls x.name)).ae≠(lA ls (uU ls x.lower)).ae then 6 else 0
def bY(ls:List zE)(i:Nat):Int :=
 if (lA ls i).kind=1 then Zu ls i else if (lA ls i).kind=2 then nO ls i else if (lA ls i).kind=3 then dT ls i else if (lA ls i).kind=4 then dX ls (lA ls i) else 0
theorem Bk(p:zE->Bool)(ls:List zE):∀i,i<=mC p ls i/\mC p ls i<=i+ls.length:=by
 induction ls with
 | nil=>intro i;simp[mC]
 | cons x r ih=>intro i;rw[mC];split
                ·simp
                ·have:=ih (i+1);simp only[pb];omega
theorem uz(p:zE->Bool)(ls:List zE):∀i,mC p ls i<i+ls.length->p (lA ls (mC p ls i-i))=true:=by
 induction ls with
 | nil=>intro i h;simp[mC]at h
 | cons x r ih =>
   intro i h;rw[mC]at h ⊢;split
   ·rename_i hp;simpa[lA] using hp
   ·rename_i hp
    rw[tj hp]at h;have h1:=(Bk p r (i+1)).1;have:=ih (i+1) (by rw[pb]at h;omega);rw[show mC p r (i+1)-i=(mC p r (i+1)-(i+1))+1 by omega];exact this
open Go.RowKit
theorem yJ{w:World}{g o:Nat}{v:Value}(h:w.cell? ⟨g,o,none⟩=some v):g<w.heap.size:=by
 rcases mc g w.heap.size with h1|h1
 ·exact h1
 ·rw[World.cell?,pw (by simpa using h1)]at h;cases h
end Go.Proofs.YtnbpdffdnphbeabGreatDoor
