import Derived.Test.YtnbpdffdnphbeabGreatDoorPure5
import Derived.BigQuiet
namespace Go.Proofs.YtnbpdffdnphbeabGreatDoor
variable{G:List Bool}{us:List vL}{g o i a b:Nat}{w:World}(n:Nat)
def TC(M:Nat->Nat->Prop)(a b:Nat):Prop:=∀R:Nat->Nat->Prop,(∀x y,M x y->R x y)->(∀x y z,R x y->R y z->R x z)->R a b
theorem TC.one{M:Nat->Nat->Prop}(h:M a b):TC M a b:=fun _ h1 _=>h1 _ _ h
theorem TC.trans{M:Nat->Nat->Prop}{c:Nat}(h:TC M a b)(h':TC M b c):TC M a c:=fun R h1 h2=>h2 _ _ _ (h R h1 h2) (h' R h1 h2)
theorem TC.mono{M M':Nat->Nat->Prop}(hm:∀x y,M x y->M' x y)(h:TC M a b):TC M' a b:=fun R h1 h2=>h R (fun x y h3=>h1 x y (hm x y h3)) h2
def gA(G:List Bool)(a b:Nat):Bool:=G.getD (a*8+b) false
def wS(q:Nat)(G:List Bool):List Bool:=if gA G (q%64/8) (q/64)&&gA G (q/64) (q%8) then G.set (q%64) true else G
def wA:Nat->Nat->List Bool->List Bool
 | 0,_,G=>G
 | n+1,q,G=>wA n (q+1) (wS q G)
def zR(G:List Bool):List Bool:=wA 512 0 G
theorem zA8(q:Nat)(G:List Bool):(wS q G).length=G.length:=by unfold wS;split <;> simp
theorem dA:∀q G,(wA n q G).length=G.length:=by
 induction n with
 | zero=>intro q G;rfl
 | succ n ih=>intro q G;rw[wA,ih,zA8]
theorem CA:∀m q G,wA (n+m) q G=wA m (q+n) (wA n q G):=by
 induction n with
 | zero=>intro m q G;simp[wA]
 | succ n ih=>intro m q G;rw[show n+1+m=(n+m)+1 by omega,wA,wA,ih,show q+1+n=q+(n+1) by omega]
theorem Va(hl:G.length=64){p:Nat}(hp:p<64):gA (G.set p true) a b=(gA G a b || decide (a*8+b=p)):=by
 unfold gA;simp only[tu,List.getElem?_set];by_cases h:p=a*8+b
 ·subst h;simp[hl,hp]
 ·rw[t7 h,tm (fun e=>h e.symm),Bool.or_false]
theorem zA9(hl:G.length=64){m:Nat}(hm:m<8)(p:Nat):p<=64->∀a b,a<8->b<8->gA (wA p (m*64) G) a b=(gA G a b || (decide (a*8+b<p)&&(gA G a m&&gA G m b))):=by
 induction p with
 | zero=>intro _ a b _ _;simp[wA]
 | succ p ih =>
   intro hp a b ha hb;have ih:=ih (by omega);rw[CA p 1,wA,wA];have e1:(m*64+p)%64=p:=by omega
   have e2:(m*64+p)/64=m:=by omega
   have e3:(m*64+p)%8=p%8:=by omega
   unfold wS;rw[e1,e2,e3];have hl2:(wA p (m*64) G).length=64:=by rw[dA,hl]
   have k1:=ih (p/8) m (by omega) hm;have k2:=ih m (p%8) hm (by omega);have k3:=ih a b ha hb;generalize wA p (m*64) G=H at *;have c1:gA H (p/8) m=gA G (p/8) m:=by rw[k1];cases gA G (p/8) m <;> simp
   have c2:gA H m (p%8)=gA G m (p%8):=by rw[k2];cases gA G m (p%8) <;> simp
   rw[c1,c2];by_cases hab:a*8+b=p
   ·have ea:p/8=a:=by omega
    have eb:p%8=b:=by omega
    rw[ea,eb];have d1:decide (a*8+b<p+1)=true:=by simp;omega
    rw[d1];split
    ·rename_i h;rw[Va hl2 (by omega),k3,h];simp[hab]
    ·rename_i h;rw[k3];have:(gA G a m&&gA G m b)=false:=by simpa using h
     rw[this];simp
   ·have d1:decide (a*8+b<p+1)=decide (a*8+b<p):=by by_cases h:a*8+b<p <;> simp[h] <;> omega
    rw[d1,<-k3];split
    ·rw[Va hl2 (by omega),tm hab,Bool.or_false]
    ·rfl
theorem JJ(hl:G.length=64){m:Nat}(hm:m<8)(ha:a<8)(hb:b<8):gA (wA 64 (m*64) G) a b=(gA G a b || (gA G a m&&gA G m b)):=by
 rw[zA9 hl hm 64 (j1 _) a b ha hb,tl (by omega:a*8+b<64),mh]
def XF(G:List Bool)(a b:Nat):Prop:=a<8/\b<8/\gA G a b=true
theorem zi(hl:G.length=64)(m:Nat):m<=8->(∀a b,XF G a b->XF (wA (m*64) 0 G) a b)/\(∀a b,XF (wA (m*64) 0 G) a b->TC (XF G) a b)/\(∀k,k<m->∀a b,XF (wA (m*64) 0 G) a k->XF (wA (m*64) 0 G) k b->XF (wA (m*64) 0 G) a b):=by
 induction m with
 | zero=>intro _;refine⟨fun a b h=>by simpa[wA] using h,fun a b h=>TC.one (by simpa[wA] using h),fun k hk=>by omega⟩
 | succ m ih =>
   intro hm;obtain⟨i1,i2,i3⟩:=ih (by omega);rw[show (m+1)*64=m*64+64 by omega,CA,bs];have hl2:(wA (m*64) 0 G).length=64:=by rw[dA,hl]
   generalize wA (m*64) 0 G=H at *
   have key:∀a b,XF (wA 64 (m*64) H) a b ↔ (XF H a b\/XF H a m/\XF H m b):=by
    intro a b;constructor
    ·rintro⟨ha,hb,h⟩
     rw[JJ hl2 (by omega) ha hb,bt,pr]at h;rcases h with h|⟨h,h'⟩
     ·exact .inl ⟨ha,hb,h⟩
     ·exact .inr ⟨⟨ha,by omega,h⟩,⟨by omega,hb,h'⟩⟩
    ·rintro(⟨ha,hb,h⟩|⟨⟨ha,_,h⟩,⟨_,hb,h'⟩⟩)
     ·exact⟨ha,hb,by rw[JJ hl2 (by omega) ha hb,h];rfl⟩
     ·exact⟨ha,hb,by rw[JJ hl2 (by omega) ha hb,h,h'];simp⟩
   refine⟨fun a b h=>(key a b).2 (.inl (i1 a b h)),fun a b h=>?_,fun k hk a b h1 h2=>?_⟩
   ·rcases(key a b).1 h with h|⟨h,h'⟩
    ·exact i2 _ _ h
    ·exact(i2 _ _ h).trans (i2 _ _ h')
   ·rw[key]at h1 h2 ⊢
    by_cases hkm:k=m
    ·subst hkm
     refine .inr ⟨?_,?_⟩
     ·rcases h1 with h1|h1
      ·exact h1
      ·exact h1.1
     ·rcases h2 with h2|h2
      ·exact h2
      ·exact h2.2
    ·have hk':k<m:=by omega
     rcases h1 with h1|⟨h1,h1'⟩ <;> rcases h2 with h2|⟨h2,h2'⟩
     ·exact .inl (i3 k hk' _ _ h1 h2)
     ·exact .inr ⟨i3 k hk' _ _ h1 h2,h2'⟩
     ·exact .inr ⟨h1,i3 k hk' _ _ h1' h2⟩
     ·exact .inr ⟨h1,h2'⟩
theorem oR(hl:G.length=64)(a b:Nat):XF (zR G) a b ↔ TC (XF G) a b:=by
 obtain⟨h1,h2,h3⟩:=zi hl 8 (j1 _);refine⟨h2 a b,fun h=>h _ h1 (fun x y z h4 h5=>h3 y ?_ x z h4 h5)⟩;exact h4.2.1
def eJ(G:List Bool):Nat->Nat->Nat
 | 0,_=>8
 | n+1,a=>if gA G a a then a else eJ G n (a+1)
def fU(G:List Bool):Nat:=eJ G 8 0
theorem DU(G:List Bool)(n:Nat):∀a,a+n=8->(eJ G n a<8 ↔ ∃b,a<=b/\b<8/\gA G b b=true):=by
 induction n with
 | zero=>intro a h;simp[eJ];intro b h1 h2;omega
 | succ n ih =>
   intro a h;rw[eJ];split
   ·rename_i hg;exact⟨fun _=>⟨a,j1 _,by omega,hg⟩,fun _=>by omega⟩
   ·rename_i hg
    rw[ih (a+1) (by omega)];constructor
    ·rintro⟨b,h1,h2,h3⟩;exact⟨b,by omega,h2,h3⟩
    ·rintro⟨b,h1,h2,h3⟩
     refine⟨b,?_,h2,h3⟩;rcases pf a b with h4|h4
     ·exact h4
     ·exfalso;have:b=a:=by omega
      subst this;exact hg h3
def qA(G:List Bool):Bool:=decide (fU (zR G)<8)
theorem sX(hl:G.length=64):qA G=true ↔ ∃a,a<8/\TC (XF G) a a:=by
 unfold qA fU;rw[l6,DU _ 8 0 rfl];constructor
 ·rintro⟨b,_,h1,h2⟩;exact⟨b,h1,(oR hl b b).1 ⟨h1,h1,h2⟩⟩
 ·rintro⟨b,h1,h2⟩;exact⟨b,tq _,h1,((oR hl b b).2 h2).2.2⟩
def wX:zE:=⟨0,[],0,0,[],[],[],0,0,0,[]⟩
def lA(ls:List zE)(i:Nat):zE:=ls.getD i wX
def uA(us:List vL)(i:Nat):vL:=us.getD i []
theorem bK.len:∀ {ls:List zE} {us:List vL},bK ls us->ls.length=us.length
 | [],[],_=>rfl
 | _::_,_::_,h=>by rw[ty,ty,bK.len h.2]
 | [],_::_,h=>absurd h id
 | _::_,[],h=>absurd h id
theorem bK.get:∀ {ls:List zE} {us:List vL},bK ls us->∀i,i<us.length->LT (lA ls i) (uA us i)
 | [],[],_,i,hi=>absurd hi (by simp)
 | x::xs,u::us,h,0,_=>h.1
 | x::xs,u::us,h,i+1,hi=>bK.get h.2 i (by simpa using hi)
 | [],_::_,h,_,_=>absurd h id
 | _::_,[],h,_,_=>absurd h id
theorem bK.take:∀ {ls:List zE} {us:List vL},bK ls us->∀n,bK (ls.take n) (us.take n)
 | [],[],_,n=>by simp[bK]
 | x::xs,u::us,h,0=>trivial
 | x::xs,u::us,h,n+1=>⟨h.1,bK.take h.2 n⟩
 | [],_::_,h,_=>absurd h id
 | _::_,[],h,_=>absurd h id
def eY(k:Int):Int:=if k=1 then 3 else if k=2 then 3 else if k=3 then 8 else if k=4 then 28 else 0
def xI(k:Int):List zE->Nat
 | []=>0
 | x::r=>(if x.kind=k then 1 else 0)+xI k r
def jI(S:List yT):Bool:=decide (4<S.length) || S.any kX
def Zk(x:zE):Bool:=decide (6<x.tests) || (decide (4<x.dep) || jI x.sum)
def qW(ls:List zE)(i:Nat):Bool:=decide (eY (lA ls i).kind<=(xI (lA ls i).kind (ls.take i):Int)) || (decide ((lA ls i).kind=3)&&Zk (lA ls i))
def rX(k:Int)(nm:Bs)(x:zE):Bool:=decide (x.kind=k)&&decide (x.name=nm)
def KO(nm:Bs)(x:zE):Bool:=decide (x.kind=3)&&decide (x.conc=nm)
def vP(ls:List zE)(k:Int)(nm:Bs):Bool:=ls.any (rX k nm)
def kO(ls:List zE)(nm:Bs):Bool:=ls.any (KO nm)
def jP(p:zE->Bool):List zE->Nat->Nat
 | [],i=>i
 | x::r,i=>if p x then i else jP p r (i+1)
def vT(ls:List zE)(nm:Bs):Nat:=jP (rX 3 nm) ls 0
def Yw(ls:List zE)(nm:Bs):Bool:=vP ls 1 nm || kO ls nm
def uJ(ls:List zE)(x:yT):Bool:=decide (x.name=[]) || Yw ls x.name
def xT(ls:List zE)(x:zM):Bool :=
 if x.kind=5 then kO ls x.name else if x.kind=6 then vP ls 2 x.name else if x.kind=7 then (decide (x.other=[]) || vP ls 1 x.other)&&vP ls 1 x.name else true
def fY(ls:List zE)(i:Nat):Int:=if vP (ls.take i) 1 (lA ls i).name || (vP (ls.take i) 2 (lA ls i).name || kO ls (lA ls i).name) then 4 else 0
def aA(ls:List zE)(i:Nat):Int:=if fY ls i=0 then (if (lA ls i).high<(lA ls i).low then 5 else 0) else fY ls i
def mA(ls:List zE)(i:Nat):Int:=if vP (ls.take i) 3 (lA ls i).name || ((lA ls i).sum.any (fun x => !uJ ls x) || (lA ls i).nd.any (fun x => !xT ls x)) then 4 else 0
def lR(ls:List zE)(x:zE):Int :=
 if vT ls x.name=ls.length\/vT ls x.lower=ls.length then 4
 else if x.name=x.lower\/(lA ls (vT ls x.name)).conc≠(lA ls (vT ls x.lower)).conc then 6 else 0
def tT(ls:List zE)(i:Nat):Int :=
 if (lA ls i).kind=1 then aA ls i else if (lA ls i).kind=2 then fY ls i else if (lA ls i).kind=3 then mA ls i else if (lA ls i).kind=4 then lR ls (lA ls i) else 0
theorem Jm(p:zE->Bool)(ls:List zE):∀i,i<=jP p ls i/\jP p ls i<=i+ls.length:=by
 induction ls with
 | nil=>intro i;simp[jP]
 | cons x r ih=>intro i;rw[jP];split
                ·simp
                ·have:=ih (i+1);simp only[ty];omega
theorem LT.rule{x:zE}{u:vL}(h:LT x u)(hk:cA u 0=Zt):∃w,jz x u w:=by
 rcases h.kind with ⟨a,b,_⟩|⟨a,b⟩|⟨a,b,_⟩|⟨a,b,hr⟩
 ·exact absurd (b.symm.trans hk) (by decide)
 ·exact absurd (b.symm.trans hk) (by decide)
 ·exact absurd (b.symm.trans hk) (by decide)
 ·exact hr
theorem LT.len{x:zE}{u:vL}(h:LT x u)(hk:cA u 0=Zt):6<=u.length:=by
 obtain⟨w,hw⟩:=h.rule hk;have:=hw.wlo;have:=hw.whi;omega
theorem BS(p:zE->Bool)(ls:List zE):∀i,jP p ls i<i+ls.length->p (lA ls (jP p ls i-i))=true:=by
 induction ls with
 | nil=>intro i h;simp[jP]at h
 | cons x r ih =>
   intro i h;rw[jP]at h ⊢;split
   ·rename_i hp;simpa[lA] using hp
   ·rename_i hp
    rw[t7 hp]at h;have h1:=(Jm p r (i+1)).1;have:=ih (i+1) (by rw[ty]at h;omega);rw[show jP p r (i+1)-i=(jP p r (i+1)-(i+1))+1 by omega];exact this
open Go.RowKit
structure GJ(w:World)(a:Option Addr)(us:List vL):Prop where
 blk:0<us.length->∃gl,a=some ⟨gl,0,none⟩/\∀i,i<us.length->∃g o c,w.cell? ⟨gl,i,none⟩=some (.slice (some ⟨g,o,none⟩) (uA us i).length c)/\gU w g o (uA us i)/\(uA us i).length<=c/\c<=maxLen
 few:us.length<=10000
 small:∀u∈us,u.length<=10000
theorem yO{v:Value}(h:w.cell? ⟨g,o,none⟩=some v):g<w.heap.size:=by
 rcases pf g w.heap.size with h1|h1
 ·exact h1
 ·rw[World.cell?,pb (by simpa using h1)]at h;cases h
theorem gU.below'{w':World}{ts:vL}(h:gU w g o ts)(hb:Below w.heap.size w w'):gU w' g o ts:=by
 intro i hi;obtain⟨a,b,c⟩:=h i hi;have hg:=yO a;exact⟨by rw[hb.cell (p:=⟨g,_,none⟩) hg];exact a,by rw[hb.cell (p:=⟨g,_,none⟩) hg];exact b,by rw[hb.cell (p:=⟨g,_,none⟩) hg];exact c⟩
theorem GJ.below{w':World}{a:Option Addr}(h:GJ w a us)(hb:Below w.heap.size w w'):GJ w' a us:=by
 refine⟨fun h0=>?_,h.few,h.small⟩;obtain⟨gl,e,p⟩:=h.blk h0;refine⟨gl,e,fun i hi=>?_⟩;obtain⟨g,o,c,h1,h2,h3,h4⟩:=p i hi;exact⟨g,o,c,by rw[hb.cell (p:=⟨gl,i,none⟩) (yO h1)];exact h1,h2.below' hb,h3,h4⟩
theorem zAB(h:i<us.length):uA us i∈us:=by simp[uA,List.getD,h]
theorem GJ.at{a:Option Addr}(h:GJ w a us)(hi:i<us.length):∃gl g o c,a=some ⟨gl,0,none⟩/\w.cell? ⟨gl,i,none⟩=some (.slice (some ⟨g,o,none⟩) (uA us i).length c)/\gU w g o (uA us i)/\(uA us i).length<=c/\c<=maxLen/\(uA us i).length<=10000:=by
 obtain⟨gl,e,p⟩:=h.blk (by omega);obtain⟨g,o,c,h1,h2,h3,h4⟩:=p i hi;exact⟨gl,g,o,c,e,h1,h2,h3,h4,h.small _ (zAB hi)⟩
theorem gU.tok{ts:vL}(h:gU w g o ts)(hi:i<ts.length):w.cell? ⟨g,o+i*3,none⟩=some (.string ⟨(tA ts i).toArray⟩)/\w.cell? ⟨g,o+i*3+2,none⟩=some (.string ⟨(cA ts i).toArray⟩) :=
 ⟨(h i hi).1,(h i hi).2.2⟩
end Go.Proofs.YtnbpdffdnphbeabGreatDoor
