import Derived.Test.YtnbpdffdnphbeabGreatDoorPure5
import Derived.BigQuiet
namespace Go.Proofs.YtnbpdffdnphbeabGreatDoor
variable{G:List Bool}{us:List zT}{b g i a o:Nat}{w:World}(n:Nat)
def TC(M:Nat->Nat->Prop)(a b:Nat):Prop:=∀R:Nat->Nat->Prop,(∀x y,M x y->R x y)->(∀x y z,R x y->R y z->R x z)->R a b
theorem TC.one{M:Nat->Nat->Prop}(h:M a b):TC M a b:=fun _ h1 _=>h1 _ _ h
theorem TC.trans{M:Nat->Nat->Prop}{c:Nat}(h:TC M a b)(h':TC M b c):TC M a c:=fun R h1 h2=>h2 _ _ _ (h R h1 h2) (h' R h1 h2)
theorem TC.mono{M M':Nat->Nat->Prop}(hm:∀x y,M x y->M' x y)(h:TC M a b):TC M' a b:=fun R h1 h2=>h R (fun x y h3=>h1 x y (hm x y h3)) h2
def gA(G:List Bool)(a b:Nat):Bool:=G.getD (a*8+b) false
def wS(q:Nat)(G:List Bool):List Bool:=if gA G (q%64/8) (q/64)&&gA G (q/64) (q%8) then G.set (q%64) true else G
def wA:Nat->Nat->List Bool->List Bool
 | 0,_,G=>G
 | n+1,q,G=>wA n (q+1) (wS q G)
def zS(G:List Bool):List Bool:=wA 512 0 G
theorem zG4(q:Nat)(G:List Bool):(wS q G).length=G.length:=by unfold wS;split <;> simp
theorem fO:∀q G,(wA n q G).length=G.length:=by
 induction n with
 | zero=>intro q G;rfl
 | succ n ih=>intro q G;rw[wA,ih,zG4]
theorem zb:∀m q G,wA (n+m) q G=wA m (q+n) (wA n q G):=by
 induction n with
 | zero=>intro m q G;simp[wA]
 | succ n ih=>intro m q G;rw[show n+1+m=(n+m)+1 by omega,wA,wA,ih,show q+1+n=q+(n+1) by omega]
theorem BE(hl:G.length=64){p:Nat}(hp:p<64):gA (G.set p true) a b=(gA G a b || decide (a*8+b=p)):=by
 unfold gA;simp only[ma,List.getElem?_set];by_cases h:p=a*8+b
 ·subst h;simp[hl,hp]
 ·rw[tj h,tu (fun e=>h e.symm),Bool.or_false]
theorem zG5(hl:G.length=64){m:Nat}(hm:m<8)(p:Nat):p<=64->∀a b,a<8->b<8->gA (wA p (m*64) G) a b=(gA G a b || (decide (a*8+b<p)&&(gA G a m&&gA G m b))):=by
 induction p with
 | zero=>intro _ a b _ _;simp[wA]
 | succ p ih =>
   intro hp a b ha hb;have ih:=ih (by omega);rw[zb p 1,wA,wA];have e1:(m*64+p)%64=p:=by omega
   have e2:(m*64+p)/64=m:=by omega
   have e3:(m*64+p)%8=p%8:=by omega
   unfold wS;rw[e1,e2,e3];have hl2:(wA p (m*64) G).length=64:=by rw[fO,hl]
   have k1:=ih (p/8) m (by omega) hm;have k2:=ih m (p%8) hm (by omega);have k3:=ih a b ha hb;generalize wA p (m*64) G=H at *;have c1:gA H (p/8) m=gA G (p/8) m:=by rw[k1];cases gA G (p/8) m <;> simp
   have c2:gA H m (p%8)=gA G m (p%8):=by rw[k2];cases gA G m (p%8) <;> simp
   rw[c1,c2];by_cases hab:a*8+b=p
   ·have ea:p/8=a:=by omega
    have eb:p%8=b:=by omega
    rw[ea,eb];have d1:decide (a*8+b<p+1)=true:=by simp;omega
    rw[d1];split
    ·rename_i h;rw[BE hl2 (by omega),k3,h];simp[hab]
    ·rename_i h;rw[k3];have:(gA G a m&&gA G m b)=false:=by simpa using h
     rw[this];simp
   ·have d1:decide (a*8+b<p+1)=decide (a*8+b<p):=by by_cases h:a*8+b<p <;> simp[h] <;> omega
    rw[d1,<-k3];split
    ·rw[BE hl2 (by omega),tu hab,Bool.or_false]
    ·rfl
theorem Uq(hl:G.length=64){m:Nat}(hm:m<8)(ha:a<8)(hb:b<8):gA (wA 64 (m*64) G) a b=(gA G a b || (gA G a m&&gA G m b)):=by
 rw[zG5 hl hm 64 (tg _) a b ha hb,ty (by omega:a*8+b<64),ld]
def Kl(G:List Bool)(a b:Nat):Prop:=a<8/\b<8/\gA G a b=true
theorem zC3(hl:G.length=64)(m:Nat):m<=8->(∀a b,Kl G a b->Kl (wA (m*64) 0 G) a b)/\(∀a b,Kl (wA (m*64) 0 G) a b->TC (Kl G) a b)/\(∀k,k<m->∀a b,Kl (wA (m*64) 0 G) a k->Kl (wA (m*64) 0 G) k b->Kl (wA (m*64) 0 G) a b):=by
 induction m with
 | zero=>intro _;refine⟨fun a b h=>by simpa[wA] using h,fun a b h=>TC.one (by simpa[wA] using h),fun k hk=>by omega⟩
 | succ m ih =>
   intro hm;obtain⟨i1,i2,i3⟩:=ih (by omega);rw[show (m+1)*64=m*64+64 by omega,zb,db];have hl2:(wA (m*64) 0 G).length=64:=by rw[fO,hl]
   generalize wA (m*64) 0 G=H at *
   have key:∀a b,Kl (wA 64 (m*64) H) a b ↔ (Kl H a b\/Kl H a m/\Kl H m b):=by
    intro a b;constructor
    ·rintro⟨ha,hb,h⟩
     rw[Uq hl2 (by omega) ha hb,cr,mc]at h;rcases h with h|⟨h,h'⟩
     ·exact .inl ⟨ha,hb,h⟩
     ·exact .inr ⟨⟨ha,by omega,h⟩,⟨by omega,hb,h'⟩⟩
    ·rintro(⟨ha,hb,h⟩|⟨⟨ha,_,h⟩,⟨_,hb,h'⟩⟩)
     ·exact⟨ha,hb,by rw[Uq hl2 (by omega) ha hb,h];rfl⟩
     ·exact⟨ha,hb,by rw[Uq hl2 (by omega) ha hb,h,h'];simp⟩
   refine⟨fun a b h=>(key a b).2 (.inl (i1 a b h)),fun a b h=>?_,fun k hk a b h1 h2=>?_⟩
   ·rcases(key a b).1 h with h|⟨h,h'⟩
    ·exact i2 _ _ h
    ·exact(i2 _ _ h).trans (i2 _ _ h')
   ·rw[key]at h1 h2 ⊢
    by_cases hkm:k=m
    ·subst hkm
     refine .inr ⟨?_,?_⟩
     ·rcases h1 with h1|h1
      ·exact h1
      ·exact h1.1
     ·rcases h2 with h2|h2
      ·exact h2
      ·exact h2.2
    ·have hk':k<m:=by omega
     rcases h1 with h1|⟨h1,h1'⟩ <;> rcases h2 with h2|⟨h2,h2'⟩
     ·exact .inl (i3 k hk' _ _ h1 h2)
     ·exact .inr ⟨i3 k hk' _ _ h1 h2,h2'⟩
     ·exact .inr ⟨h1,i3 k hk' _ _ h1' h2⟩
     ·exact .inr ⟨h1,h2'⟩
theorem aP(hl:G.length=64)(a b:Nat):Kl (zS G) a b ↔ TC (Kl G) a b:=by
 obtain⟨h1,h2,h3⟩:=zC3 hl 8 (tg _);refine⟨h2 a b,fun h=>h _ h1 (fun x y z h4 h5=>h3 y ?_ x z h4 h5)⟩;exact h4.2.1
def Zz(G:List Bool):Nat->Nat->Nat
 | 0,_=>8
 | n+1,a=>if gA G a a then a else Zz G n (a+1)
def nZ(G:List Bool):Nat:=Zz G 8 0
theorem qf(G:List Bool)(n:Nat):∀a,a+n=8->(Zz G n a<8 ↔ ∃b,a<=b/\b<8/\gA G b b=true):=by
 induction n with
 | zero=>intro a h;simp[Zz];intro b h1 h2;omega
 | succ n ih =>
   intro a h;rw[Zz];split
   ·rename_i hg;exact⟨fun _=>⟨a,tg _,by omega,hg⟩,fun _=>by omega⟩
   ·rename_i hg
    rw[ih (a+1) (by omega)];constructor
    ·rintro⟨b,h1,h2,h3⟩;exact⟨b,by omega,h2,h3⟩
    ·rintro⟨b,h1,h2,h3⟩
     refine⟨b,?_,h2,h3⟩;rcases py a b with h4|h4
     ·exact h4
     ·exfalso;have:b=a:=by omega
      subst this;exact hg h3
def kJ(G:List Bool):Bool:=decide (nZ (zS G)<8)
theorem Qr(hl:G.length=64):kJ G=true ↔ ∃a,a<8/\TC (Kl G) a a:=by
 unfold kJ nZ;rw[ct,qf _ 8 0 rfl];constructor
 ·rintro⟨b,_,h1,h2⟩;exact⟨b,h1,(aP hl b b).1 ⟨h1,h1,h2⟩⟩
 ·rintro⟨b,h1,h2⟩;exact⟨b,p7 _,h1,((aP hl b b).2 h2).2.2⟩
def zD6:zE:=⟨0,[],0,0,[],[],[],0,0,0,[]⟩
def lA(ls:List zE)(i:Nat):zE:=ls.getD i zD6
def uA(us:List zT)(i:Nat):zT:=us.getD i []
theorem mT.len:∀ {ls:List zE} {us:List zT},mT ls us->ls.length=us.length
 | [],[],_=>rfl
 | _::_,_::_,h=>by rw[tz,tz,mT.len h.2]
 | [],_::_,h=>absurd h id
 | _::_,[],h=>absurd h id
theorem mT.get:∀ {ls:List zE} {us:List zT},mT ls us->∀i,i<us.length->LT (lA ls i) (uA us i)
 | [],[],_,i,hi=>absurd hi (by simp)
 | x::xs,u::us,h,0,_=>h.1
 | x::xs,u::us,h,i+1,hi=>mT.get h.2 i (by simpa using hi)
 | [],_::_,h,_,_=>absurd h id
 | _::_,[],h,_,_=>absurd h id
theorem mT.take:∀ {ls:List zE} {us:List zT},mT ls us->∀n,mT (ls.take n) (us.take n)
 | [],[],_,n=>by simp[mT]
 | x::xs,u::us,h,0=>trivial
 | x::xs,u::us,h,n+1=>⟨h.1,mT.take h.2 n⟩
 | [],_::_,h,_=>absurd h id
 | _::_,[],h,_=>absurd h id
def ZK(k:Int):Int:=if k=1 then 3 else if k=2 then 3 else if k=3 then 8 else if k=4 then 28 else 0
def vB(k:Int):List zE->Nat
 | []=>0
 | x::r=>(if x.kind=k then 1 else 0)+vB k r
def tS(S:List yQ):Bool:=decide (4<S.length) || S.any qT
def YR(x:zE):Bool:=decide (6<x.tests) || (decide (4<x.dep) || tS x.sum)
def jG(ls:List zE)(i:Nat):Bool:=decide (ZK (lA ls i).kind<=(vB (lA ls i).kind (ls.take i):Int)) || (decide ((lA ls i).kind=3)&&YR (lA ls i))
def Xa(k:Int)(nm:Bs)(x:zE):Bool:=decide (x.kind=k)&&decide (x.name=nm)
def Da(nm:Bs)(x:zE):Bool:=decide (x.kind=3)&&decide (x.conc=nm)
def uP(ls:List zE)(k:Int)(nm:Bs):Bool:=ls.any (Xa k nm)
def pB(ls:List zE)(nm:Bs):Bool:=ls.any (Da nm)
def cG(p:zE->Bool):List zE->Nat->Nat
 | [],i=>i
 | x::r,i=>if p x then i else cG p r (i+1)
def tF(ls:List zE)(nm:Bs):Nat:=cG (Xa 3 nm) ls 0
def Ql(ls:List zE)(nm:Bs):Bool:=uP ls 1 nm || pB ls nm
def qH(ls:List zE)(x:yQ):Bool:=decide (x.name=[]) || Ql ls x.name
def vE(ls:List zE)(x:zN):Bool :=
 if x.kind=5 then pB ls x.name else if x.kind=6 then uP ls 2 x.name else if x.kind=7 then (decide (x.other=[]) || uP ls 1 x.other)&&uP ls 1 x.name else true
def oH(ls:List zE)(i:Nat):Int:=if uP (ls.take i) 1 (lA ls i).name || (uP (ls.take i) 2 (lA ls i).name || pB ls (lA ls i).name) then 4 else 0
def wG(ls:List zE)(i:Nat):Int:=if oH ls i=0 then (if (lA ls i).high<(lA ls i).low then 5 else 0) else oH ls i
def bF(ls:List zE)(i:Nat):Int:=if uP (ls.take i) 3 (lA ls i).name || ((lA ls i).sum.any (fun x => !qH ls x) || (lA ls i).nd.any (fun x => !vE ls x)) then 4 else 0
def cW(ls:List zE)(x:zE):Int :=
 if tF ls x.name=ls.length\/tF ls x.lower=ls.length then 4
 else if x.name=x.lower\/(lA ls (tF ls x.name)).conc≠(lA ls (tF ls x.lower)).conc then 6 else 0
def lE(ls:List zE)(i:Nat):Int :=
 if (lA ls i).kind=1 then wG ls i else if (lA ls i).kind=2 then oH ls i else if (lA ls i).kind=3 then bF ls i else if (lA ls i).kind=4 then cW ls (lA ls i) else 0
theorem jk(p:zE->Bool)(ls:List zE):∀i,i<=cG p ls i/\cG p ls i<=i+ls.length:=by
 induction ls with
 | nil=>intro i;simp[cG]
 | cons x r ih=>intro i;rw[cG];split
                ·simp
                ·have:=ih (i+1);simp only[tz];omega
theorem LT.rule{x:zE}{u:zT}(h:LT x u)(hk:cA u 0=jZ):∃w,zB6 x u w:=by
 rcases h.kind with ⟨a,b,_⟩|⟨a,b⟩|⟨a,b,_⟩|⟨a,b,hr⟩
 ·exact absurd (b.symm.trans hk) (by decide)
 ·exact absurd (b.symm.trans hk) (by decide)
 ·exact absurd (b.symm.trans hk) (by decide)
 ·exact hr
theorem LT.len{x:zE}{u:zT}(h:LT x u)(hk:cA u 0=jZ):6<=u.length:=by
 obtain⟨w,hw⟩:=h.rule hk;have:=hw.wlo;have:=hw.whi;omega
open Go.RowKit
structure zB7(w:World)(a:Option Addr)(us:List zT):Prop where
 blk:0<us.length->∃gl,a=some ⟨gl,0,none⟩/\∀i,i<us.length->∃g o c,w.cell? ⟨gl,i,none⟩=some (.slice (some ⟨g,o,none⟩) (uA us i).length c)/\oQ w g o (uA us i)/\(uA us i).length<=c/\c<=maxLen
 few:us.length<=10000
 small:∀u∈us,u.length<=10000
theorem zY{v:Value}(h:w.cell? ⟨g,o,none⟩=some v):g<w.heap.size:=by
 rcases py g w.heap.size with h1|h1
 ·exact h1
 ·rw[World.cell?,pq (by simpa using h1)]at h;cases h
theorem oQ.below'{w':World}{ts:zT}(h:oQ w g o ts)(hb:Below w.heap.size w w'):oQ w' g o ts:=by
 intro i hi;obtain⟨a,b,c⟩:=h i hi;have hg:=zY a;exact⟨by rw[hb.cell (p:=⟨g,_,none⟩) hg];exact a,by rw[hb.cell (p:=⟨g,_,none⟩) hg];exact b,by rw[hb.cell (p:=⟨g,_,none⟩) hg];exact c⟩
theorem zB7.below{w':World}{a:Option Addr}(h:zB7 w a us)(hb:Below w.heap.size w w'):zB7 w' a us:=by
 refine⟨fun h0=>?_,h.few,h.small⟩;obtain⟨gl,e,p⟩:=h.blk h0;refine⟨gl,e,fun i hi=>?_⟩;obtain⟨g,o,c,h1,h2,h3,h4⟩:=p i hi;exact⟨g,o,c,by rw[hb.cell (p:=⟨gl,i,none⟩) (zY h1)];exact h1,h2.below' hb,h3,h4⟩
theorem zG7(h:i<us.length):uA us i∈us:=by simp[uA,List.getD,h]
theorem zB7.at{a:Option Addr}(h:zB7 w a us)(hi:i<us.length):∃gl g o c,a=some ⟨gl,0,none⟩/\w.cell? ⟨gl,i,none⟩=some (.slice (some ⟨g,o,none⟩) (uA us i).length c)/\oQ w g o (uA us i)/\(uA us i).length<=c/\c<=maxLen/\(uA us i).length<=10000:=by
 obtain⟨gl,e,p⟩:=h.blk (by omega);obtain⟨g,o,c,h1,h2,h3,h4⟩:=p i hi;exact⟨gl,g,o,c,e,h1,h2,h3,h4,h.small _ (zG7 hi)⟩
theorem oQ.tok{ts:zT}(h:oQ w g o ts)(hi:i<ts.length):w.cell? ⟨g,o+i*3,none⟩=some (.string ⟨(tA ts i).toArray⟩)/\w.cell? ⟨g,o+i*3+2,none⟩=some (.string ⟨(cA ts i).toArray⟩) :=
 ⟨(h i hi).1,(h i hi).2.2⟩
end Go.Proofs.YtnbpdffdnphbeabGreatDoor
