import Derived.Test.YtnbpdffdnphbeabGreatDoorPFtxt
import Derived.Test.YtnbpdffdnphbeabGreatDoorDAsk
namespace Go.Proofs.YtnbpdffdnphbeabGreatDoor
variable{a h i:Nat}{t:yC}
structure FV where
 inn:Nat->Int
 has:Nat->Bool
 val:Nat->Int
variable{v:FV}
def zG4(x:Int)(k:Nat)(y:Int):Bool:=if k=0 then decide (x<y) else if k=1 then decide (x<=y) else if k=2 then decide (x=y) else if k=3 then decide (x≠y) else if k=4 then decide (y<=x) else decide (y<x)
def Ff(v:FV)(t:yC):Bool:=if t.kind=0 then true else if t.kind=1 then decide (v.inn t.x.toNat=1) else if t.kind=2 then v.has t.x.toNat else if t.kind=3 then zG4 (v.inn t.x.toNat) t.mark.toNat t.n else zG4 (v.inn t.x.toNat) t.mark.toNat (v.inn t.y.toNat)
def iQ(v:FV)(t:yC):Bool:=Ff v t != t.not
def zj(v:FV):Bool->Bool->List yC->Bool
 | s,r,[]=>s || r
 | s,r,t::l=>if t.or=true then zj v (s || r) (iQ v t) l else zj v s (r&&iQ v t) l
def Jh(v:FV)(ps:List yX):Bool:=ps.all fun p=>decide (p.head<0) || v.has p.head.toNat
def zB1(v:FV)(wh:Bool):List yC->Bool
 | []=>true != wh
 | t::l=>zj v false (iQ v t) l != wh
def oA(v:FV)(r:vI):Bool:=Jh v r.parts&&zB1 v r.whole r.tests
structure lV(M:yB)(v:FV):Prop where
 num:∀i,i<3->M.lo i<=v.inn i/\v.inn i<=M.hi i
 flag:∀i,3<=i->i<5->v.inn i=0\/v.inn i=1
def dO(M:yB):List Bool:=(List.range 64).map fun q=>M.over (q/8) (q%8)
theorem V2(M:yB):(dO M).length=64:=by unfold dO;simp
theorem Ka(M:yB){b:Nat}(ha:a<8)(hb:b<8):gA (dO M) a b=M.over a b:=by
 unfold gA dO;have hq:a*8+b<64:=by omega
 simp[List.getD,hq,show (a*8+b)/8=a by omega,show (a*8+b)%8=b by omega]
theorem ZC{hs:List Bool}{a:Int}(h0:0<=a)(h1:a.toNat<hs.length):kY hs a=hs.getD a.toNat false:=by
 unfold kY;rw[tr h0,tr (show a<(hs.length:Int) by omega)];rfl
def evA(E:Qz):GA:=⟨Bool,fun t=>Kc E [] (mN t),fun x y=>x&&y,fun x y=>x || y,fun _ x => !x,fun N i _ b=>0<=i/\i.toNat<N.length/\(QG E N).getD i.toNat false=b⟩
theorem zFG(E:Qz)(N M:List zR)(h:a<N.length):(QG E (N++M)).getD a false=(QG E N).getD a false:=by
 have:=zAT E (N++M) N.length a h (by rw[tm];omega);rw[List.take_left' rfl]at this;exact this.symm
theorem YF(E:Qz)(N:List zR)(x:zR):(QG E (N++[x])).getD N.length false=Kc E (QG E N) x:=by
 rw[zFF E (N++[x]) N.length (by simp),List.take_left' rfl];have:=zEQ N x [];rw[ms]at this;rw[this]
theorem jg(E:Qz)(hs:List Bool)(t:yC):Kc E hs (mN t)=Kc E [] (mN t):=by
 have hk:=YX t;have h1:¬(mN t).kind=1:=by omega
 have h2:¬(mN t).kind=2:=by omega
 have h3:¬(mN t).kind=3:=by omega
 unfold Kc;simp only[tb h1,tb h2,tb h3]
theorem zJS(E:Qz)(low:List Nat):(evA E).Ok low where
 ext:=fun N M i k b ⟨h0,h1,h2⟩=>⟨h0,by rw[tm];omega,by rw[zFG E N M h1];exact h2⟩
 core:=fun N t _=>⟨by omega,by rw[tm];simp,by rw[Int.toNat_natCast,YF,jg];rfl⟩
 and:=fun N l kl (x:Bool) r kr (y:Bool) ⟨a0,a1,a2⟩ ⟨b0,b1,b2⟩ _ _=>by
  refine⟨by omega,by rw[tm];simp,?_⟩;rw[Int.toNat_natCast,YF];show (kY (QG E N) l&&kY (QG E N) r)=(x&&y);rw[ZC a0 (by rw[dZ];exact a1),ZC b0 (by rw[dZ];exact b1),a2,b2]
 or:=fun N l kl (x:Bool) r kr (y:Bool) ⟨a0,a1,a2⟩ ⟨b0,b1,b2⟩=>by
  refine⟨by omega,by rw[tm];simp,?_⟩;rw[Int.toNat_natCast,YF];show (kY (QG E N) l || kY (QG E N) r)=(x || y);rw[ZC a0 (by rw[dZ];exact a1),ZC b0 (by rw[dZ];exact b1),a2,b2]
 not:=fun N l kl (x:Bool) ⟨a0,a1,a2⟩=>by
  refine⟨by omega,by rw[tm];simp,?_⟩;rw[Int.toNat_natCast,YF];show (!kY (QG E N) l)=(!x);rw[ZC a0 (by rw[dZ];exact a1),a2]
structure KL(heads:List Nat)(v:FV)(E:Qz):Prop where
 inp:∀i,i<5->E.inp (yD i)=v.inn i
 has:∀d∈heads,E.has (xM 99 d)=v.has d
def yg(E:Qz)(x:GX):Bool:=x (evA E)
theorem zHC{k:Nat}(hk:k<6)(x y:Int):zC2 x (sX k) y=zG4 x k y:=by
 have h:k=0\/k=1\/k=2\/k=3\/k=4\/k=5:=by omega
 unfold zC2 zG4;rcases Int.lt_trichotomy x y with h1|h1|h1
 ·rw[tl h1]
  rcases h with rfl|rfl|rfl|rfl|rfl|rfl
  ·rw[tl rfl,tr h1];decide
  ·rw[tb (by decide),tl rfl,tr (show x<=y by omega)];decide
  ·rw[tb (by decide),tb (by decide),tl rfl,tu (show ¬x=y by omega)];decide
  ·rw[tb (by decide),tb (by decide),tb (by decide),tl rfl,tr (show x≠y by omega)];decide
  ·rw[tb (by decide),tb (by decide),tb (by decide),tb (by decide),tl rfl,tu (show ¬y<=x by omega)];decide
  ·rw[tb (by decide),tb (by decide),tb (by decide),tb (by decide),tb (by decide),tu (show ¬y<x by omega)];decide
 ·rw[tb (by omega),tl h1]
  rcases h with rfl|rfl|rfl|rfl|rfl|rfl
  ·rw[tl rfl,tu (show ¬x<y by omega)];decide
  ·rw[tb (by decide),tl rfl,tr (show x<=y by omega)];decide
  ·rw[tb (by decide),tb (by decide),tl rfl,tr h1];decide
  ·rw[tb (by decide),tb (by decide),tb (by decide),tl rfl,tu (show ¬x≠y by omega)];decide
  ·rw[tb (by decide),tb (by decide),tb (by decide),tb (by decide),tl rfl,tr (show y<=x by omega)];decide
  ·rw[tb (by decide),tb (by decide),tb (by decide),tb (by decide),tb (by decide),tu (show ¬y<x by omega)];decide
 ·rw[tb (by omega),tb (by omega)]
  rcases h with rfl|rfl|rfl|rfl|rfl|rfl
  ·rw[tl rfl,tu (show ¬x<y by omega)];decide
  ·rw[tb (by decide),tl rfl,tu (show ¬x<=y by omega)];decide
  ·rw[tb (by decide),tb (by decide),tl rfl,tu (show ¬x=y by omega)];decide
  ·rw[tb (by decide),tb (by decide),tb (by decide),tl rfl,tr (show x≠y by omega)];decide
  ·rw[tb (by decide),tb (by decide),tb (by decide),tb (by decide),tl rfl,tr (show y<=x by omega)];decide
  ·rw[tb (by decide),tb (by decide),tb (by decide),tb (by decide),tb (by decide),tr (show y<x by omega)];decide
theorem zG2{heads:List Nat}{E:Qz}(hE:KL heads v E)(ht:vM (xF heads h) t):Kc E [] (mN t)=Ff v t:=by
 unfold mN Ff;rcases ht with h0|⟨h0,x1,x2⟩|⟨h0,d,hd,hx⟩|⟨h0,⟨x1,x2⟩,⟨y1,y2⟩,⟨m1,m2⟩,n1,n2⟩
 ·rw[tl h0,tl h0];rfl
 ·rw[tb (show ¬t.kind=0 by omega),tl h0,tb (show ¬t.kind=0 by omega),tl h0,<-hE.inp t.x.toNat (by omega)];rfl
 ·rw[tb (show ¬t.kind=0 by omega),tb (show ¬t.kind=1 by omega),tl h0,tb (show ¬t.kind=0 by omega),tb (show ¬t.kind=1 by omega),tl h0,hx,Int.toNat_natCast]
  have hm:d∈heads:=by unfold xF at hd;rw[mh]at hd;exact cb hd.2
  rw[<-hE.has d hm];rfl
 ·have e1:=hE.inp t.x.toNat (by omega)
  have e2:=hE.inp t.y.toNat (by omega);rcases h0 with h0|h0
  ·rw[tb (show ¬t.kind=0 by omega),tb (show ¬t.kind=1 by omega),tb (show ¬t.kind=2 by omega),tl h0,tb (show ¬t.kind=0 by omega),tb (show ¬t.kind=1 by omega),tb (show ¬t.kind=2 by omega),tl h0,<-zHC (by omega),<-e1];rfl
  ·rw[tb (show ¬t.kind=0 by omega),tb (show ¬t.kind=1 by omega),tb (show ¬t.kind=2 by omega),tb (show ¬t.kind=3 by omega),tb (show ¬t.kind=0 by omega),tb (show ¬t.kind=1 by omega),tb (show ¬t.kind=2 by omega),tb (show ¬t.kind=3 by omega),<-zHC (by omega),<-e1,<-e2]
   show zC2 (E.inp (yD t.x.toNat)) (sX t.mark.toNat) (if yD t.y.toNat=[] then 0 else E.inp (yD t.y.toNat))=_;rw[tb (by have:=YE t.y.toNat;intro e;rw[e]at this;cases this)]
theorem uo{heads:List Nat}{E:Qz}(hE:KL heads v E)(ht:vM (xF heads h) t):yg E (tV t)=iQ v t:=by
 have hc:=zG2 hE ht;unfold yg tV iQ;rw[<-hc];cases t.not
 ·show Kc E [] (mN t)=(Kc E [] (mN t) != false)
  cases Kc E [] (mN t) <;> rfl
 ·show (!Kc E [] (mN t))=(Kc E [] (mN t) != true)
  cases Kc E [] (mN t) <;> rfl
def zL6(E:Qz):Option GX->Bool
 | none=>false
 | some a=>yg E a
theorem DL(E:Qz)(acc:Option GX)(c:GX):yg E (Jn acc c)=(zL6 E acc || yg E c):=by
 cases acc with
 | none=>rfl
 | some a=>rfl
theorem zKY{heads:List Nat}{E:Qz}(hE:KL heads v E)(l:List yC):∀(acc:Option GX) (c:GX),(∀t∈l,vM (xF heads h) t)->yg E (Jv acc c l)=zj v (zL6 E acc) (yg E c) l:=by
 induction l with
 | nil=>intro acc c _;rw[zFL,DL];rfl
 | cons t r ih =>
   intro acc c hl;have ht:=uo hE (hl t (by simp));have hr:∀q∈r,vM (xF heads h) q:=fun q hq=>hl q (mt _ hq);rw[zB2,zj];cases ho:t.or
   ·rw[tb (by decide),tb (by decide),ih _ _ hr,<-ht];rfl
   ·rw[tl rfl,tl rfl,ih _ _ hr,<-ht,<-DL];rfl
theorem zJE{heads:List Nat}{E:Qz}(hE:KL heads v E)(wh:Bool){l:List yC}(hl:∀q∈t::l,vM (xF heads h) q):yg E (zB0 wh t l)=zB1 v wh (t::l):=by
 have e:=zKY hE l none (tV t) (fun q hq=>hl q (mt _ hq));rw[uo hE (hl t (by simp))]at e;show yg E (zB0 wh t l)=(zj v false (iQ v t) l != wh);rw[<-show yg E (Jv none (tV t) l)=zj v false (iQ v t) l from e];unfold zB0;cases wh
 ·rw[tb (by decide)]
  cases yg E (Jv none (tV t) l) <;> rfl
 ·rw[tl rfl]
  show (!yg E (Jv none (tV t) l))=_;cases yg E (Jv none (tV t) l) <;> rfl
theorem zAY{M:yB}{g:GR}(hr:oD M.heads (vE M i))(hg:oM (xF M.heads (vE M i).head) (vE M i) g){E:Qz}(hE:KL M.heads v E):kY (QG E g.nd) g.root=zB1 v (vE M i).whole (vE M i).tests:=by
 obtain⟨t,l,k,htl,hD⟩:=hg.den;obtain⟨h0,h1,h2⟩:=hD (evA E) (zJS E _);have hT:=hr.tests.2.2;rw[htl]at hT ⊢;rw[ZC h0 (by rw[dZ];exact h1),h2];exact zJE hE _ hT
theorem zEM{M:yB}{r:vI}(hr:oD M.heads r){ins cs:List Bs}{s:yZ}(zLT:∀i,i<3->0<=zH ins (yD i))(hco:∀d,d<4->zH ins (xM 99 d)<0)(hE:KL M.heads v (Y1 ins cs s)):jH s ((rY r.parts).map (xW ins cs))=Jh v r.parts:=by
 have one:∀p m,tB (xF M.heads r.head) p->(!(decide ((xW ins cs (bH m p)).kind=3) && !kY s.has (xW ins cs (bH m p)).place))=(decide (p.head<0) || v.has p.head.toNat):=fun p m hp=>by
  have h4:=hr.head;obtain⟨mi,ti,n,nu,hd⟩:=p;rcases hp with ⟨h0,h1,h2,h3⟩|⟨h0,h1,h2⟩|⟨h0,h1,h2,h3⟩|⟨h1,h2,d,hd4,h3⟩
  ·simp only at h0 h1 h2 h3
   subst h0 h2 h3;rfl
  ·simp only at h0 h1 h2
   subst h0 h2;have e2:bH m ⟨mi,false,n,nu,-1⟩=⟨m,false,0,yD nu.toNat⟩:=by simp[bH,h1.1]
   have hk:(xW ins cs ⟨m,false,0,yD nu.toNat⟩).kind=2:=by
    have:=zLT nu.toNat (by omega);have zLO:¬yD nu.toNat=[]:=by intro e;have:=YE nu.toNat;rw[e]at this;cases this
    unfold xW Ke;simp only;rw[tb zLO,tb (by omega)]
   rw[e2,hk];rfl
  ·simp only at h0 h1 h2 h3
   subst h0 h3;have e2:bH m ⟨mi,true,n,nu,-1⟩=⟨m,true,n,yD nu.toNat⟩:=by simp[bH,h2.1]
   have hk:(xW ins cs ⟨m,true,n,yD nu.toNat⟩).kind=2:=by
    have:=zLT nu.toNat (by omega);have zLO:¬yD nu.toNat=[]:=by intro e;have:=YE nu.toNat;rw[e]at this;cases this
    unfold xW Ke;simp only;rw[tb zLO,tb (by omega)]
   rw[e2,hk];rfl
  ·simp only at h1 h2 h3
   subst h2 h3;obtain⟨hm,zLL⟩:=cT hd4;have hh:=hE.has d hm;have hc:=hco d (by omega)
   have key:∀(st:Bool) (z:Int),(!(decide ((xW ins cs ⟨m,st,z,xM 99 d⟩).kind=3) && !kY s.has (xW ins cs ⟨m,st,z,xM 99 d⟩).place))=v.has d:=fun st z=>by
    have zLO:¬xM 99 d=[]:=by unfold xM;simp
    have k1:(xW ins cs ⟨m,st,z,xM 99 d⟩).kind=3:=by unfold xW Ke;simp only;rw[tb zLO,tl hc]
    have k2:(xW ins cs ⟨m,st,z,xM 99 d⟩).place=zH cs (xM 99 d):=by unfold xW vh;simp only;rw[tb zLO,tl hc]
    rw[k1,k2,<-hh];show (!(true && !kY s.has (zH cs (xM 99 d))))=kY s.has (zH cs (xM 99 d));cases kY s.has (zH cs (xM 99 d)) <;> rfl
   have e3:(decide ((d:Int)<0) || v.has (d:Int).toNat)=v.has d:=by rw[tu (by omega),Int.toNat_natCast];rfl
   rw[e3];cases ti
   ·have e2:bH m ⟨mi,false,n,-1,d⟩=⟨m,false,0,xM 99 d⟩:=by simp[bH]
    rw[e2];exact key _ _
   ·have e2:bH m ⟨mi,true,n,-1,d⟩=⟨m,true,n,xM 99 d⟩:=by simp[bH]
    rw[e2];exact key _ _
 unfold jH Jh
 cases hps:r.parts with
 | nil=>rfl
 | cons p rr =>
   have zLW:=hr.parts.2.2;rw[hps]at zLW;rw[show rY (p::rr)=bH false p::rr.map fun q=>bH q.minus q from rfl,dc,ff,ff,one p false (zLW p (by simp)),List.map_map,List.all_map];congr 1
   have h2:∀q∈rr,tB (xF M.heads r.head) q:=fun q hq=>zLW q (mt _ hq);clear zLW hps
   induction rr with
   | nil=>rfl
   | cons q rr ih =>
     rw[ff,ff,ih fun x hx=>h2 x (mt _ hx)];congr 1
     exact one q q.minus (h2 q (by simp))
theorem U8{M:yB}(h:yA M)(hi:i<M.rules.length){g:GR}(hg:oM (xF M.heads (vE M i).head) (vE M i) g){ins cs:List Bs}{s:yZ}(zLT:∀i,i<3->0<=zH ins (yD i))(hco:∀d,d<4->zH ins (xM 99 d)<0)(hE:KL M.heads v (Y1 ins cs s)):kB (qI ins cs (nF (vE M i) i g)) s=oA v (vE M i):=by
 have hr:=h.rules _ (pW hi);unfold kB oA;rw[<-zEM hr zLT hco hE,<-zAY hr hg hE];show (jH s ((rY (vE M i).parts).map (xW ins cs))&&kY (dB s (g.nd.map (mD ins cs)) []) g.root)=_;rw[zJA];rfl
variable {M:yB} {G:Nat->GR}
theorem zB3(M:yB)(G:Nat->GR):dM (vC M G)=(List.range M.rules.length).map fun i=>nF (vE M i) i (G i):=by
 unfold dM vC;rw[cq,cq]
 have h1:((List.range 5).map (gW M)).filter (fun x=>decide (x.kind=3))=[]:=List.filter_eq_nil_iff.2 fun x hx=>by
  obtain⟨i,-,rfl⟩:=p7.1 hx;rw[tu (jX M i).1];decide
 have h2:((List.range M.rules.length).map fun i=>nF (vE M i) i (G i)).filter (fun x=>decide (x.kind=3))=(List.range M.rules.length).map fun i=>nF (vE M i) i (G i):=List.filter_eq_self.2 fun x hx=>by
  obtain⟨i,-,rfl⟩:=p7.1 hx;rfl
 have h3:((QD M).map cQ).filter (fun x=>decide (x.kind=3))=[]:=List.filter_eq_nil_iff.2 fun x hx=>by
  obtain⟨i,-,rfl⟩:=p7.1 hx;exact(show ¬(decide ((4:Int)=3))=true by decide)
 rw[h1,h2,h3];simp
theorem DX(M:yB)(G:Nat->GR):zV (vC M G)=(List.range 5).map fun i=>jM (gW M i):=by
 unfold zV;rw[wX,da];unfold vC;rw[cq,cq]
 have h1:((List.range 5).map (gW M)).filter (fun x=>decide (x.kind=1\/x.kind=2))=(List.range 5).map (gW M):=List.filter_eq_self.2 fun x hx=>by
  obtain⟨i,-,rfl⟩:=p7.1 hx;rw[dA];split <;> decide
 have h2:((List.range M.rules.length).map fun i=>nF (vE M i) i (G i)).filter (fun x=>decide (x.kind=1\/x.kind=2))=[]:=List.filter_eq_nil_iff.2 fun x hx=>by
  obtain⟨i,-,rfl⟩:=p7.1 hx;exact(show ¬(decide ((3:Int)=1\/(3:Int)=2))=true by decide)
 have h3:((QD M).map cQ).filter (fun x=>decide (x.kind=1\/x.kind=2))=[]:=List.filter_eq_nil_iff.2 fun x hx=>by
  obtain⟨i,-,rfl⟩:=p7.1 hx;exact(show ¬(decide ((4:Int)=1\/(4:Int)=2))=true by decide)
 rw[h1,h2,h3];simp
def zAF:List Bs:=(List.range 5).map yD
theorem CH:∀i,i<4->∀j,j<4->xM 99 i=xM 99 j->i=j:=by decide
theorem Jt{a:List zE}(h:∀x∈a,x.kind≠3):∀acc,uQ a acc=acc:=by
 induction a with
 | nil=>intro acc;rfl
 | cons x r ih=>intro acc;rw[uQ,tb (fun q=>h x (by simp) q.1)];exact ih (fun y hy=>h y (mt _ hy)) acc
theorem zb(M:yB)(G:Nat->GR)(L:List Nat):∀acc:List Nat,(∀i∈L,(vE M i).head<4)->(∀d∈acc,d<4)->uQ (L.map fun i=>nF (vE M i) i (G i)) (acc.map (xM 99))=((L.map fun i=>(vE M i).head).foldl Y2 acc).map (xM 99):=by
 induction L with
 | nil=>intro acc _ _;rfl
 | cons i r ih =>
   intro acc hL ha;have hi:=hL i (by simp);rw[dc,dc,uQ,List.foldl_cons]
   have hf:zH (acc.map (xM 99)) (xM 99 (vE M i).head)<0 ↔ (vE M i).head ∉ acc:=by
    unfold zH;rw[gO];constructor
    ·intro h hm;exact h (p7.2 ⟨_,hm,rfl⟩)
    ·intro h hm
     obtain⟨d,hd,e⟩:=p7.1 hm;exact h (CH d (ha d hd) _ hi e ▸ hd)
   have e:(if (nF (vE M i) i (G i)).kind=3/\zH (acc.map (xM 99)) (nF (vE M i) i (G i)).conc<0 then acc.map (xM 99)++[(nF (vE M i) i (G i)).conc] else acc.map (xM 99))=(Y2 acc (vE M i).head).map (xM 99):=by
    unfold Y2;by_cases hm:(vE M i).head∈acc
    ·rw[tl hm,tb (fun q=>hf.1 q.2 hm)]
    ·rw[tb hm,tl ⟨rfl,hf.2 hm⟩,bf];rfl
   rw[e];refine ih _ (fun j hj=>hL j (mt _ hj)) fun d hd=>?_;rcases UE.1 hd with h1|h1
   ·exact ha d h1
   ·omega
theorem Vn(M:yB):((List.range M.rules.length).map fun i=>(vE M i).head)=M.rules.map vI.head:=by
 refine List.ext_getElem (by simp) fun i h1 h2=>?_;simp at h1;simp[vE,List.getD,h1]
theorem Jx(h:yA M)(G:Nat->GR):zJ (vC M G)=M.heads.map (xM 99):=by
 unfold zJ vC;rw[XL,XL,Jt (a:=(List.range 5).map (gW M)) (fun x hx=>by obtain⟨i,-,rfl⟩:=p7.1 hx;exact(jX M i).1)];have:=zb M G (List.range M.rules.length) [] (fun i hi=>Dw h (pm.1 hi)) (fun d hd=>by cases hd);rw[List.map_nil]at this;rw[this,Jt (fun x hx=>by obtain⟨i,-,rfl⟩:=p7.1 hx;exact(show ¬(4:Int)=3 by decide)),Vn,h.heads];rfl
theorem zEG(h:yA M){b:Nat}(ho:M.over a b=true):(a,b)∈QD M:=by
 have:=h.over a b ho;unfold QD;refine bj.2 ⟨a,pm.2 (by omega),bj.2 ⟨b,pm.2 (by omega),?_⟩⟩;rw[tl ho];simp
theorem J3{l:List Bs}{nm:Bs}(h:nm∈l):∃a:Nat,a<l.length/\zH l nm=(a:Int)/\l.getD a []=nm:=by
 have h1:¬zH l nm<0:=fun q=>(gO nm l 0).1 q h;have h2:=kX l nm;refine⟨(zH l nm).toNat,by omega,by omega,cB (by omega)⟩
theorem gB(h:i<3):jM (gW M i)=⟨yD i,false,M.lo i,M.hi i⟩:=by unfold jM gW;rw[tl h];rfl
theorem eV(h:¬i<3):jM (gW M i)=⟨yD i,true,0,0⟩:=by unfold jM gW;rw[tb h];rfl
def zCV(M:yB)(i j:Nat):Prop:=i≠j/\(vE M i).head=(vE M j).head/\gA (zW (dO M)) i j=false/\gA (zW (dO M)) j i=false
theorem Fb{low:List Nat}{p:yX}(h:tB low p)(m:Bool):0<=(bH m p).num/\(bH m p).num<=9999:=by
 unfold bH;rcases h with ⟨h0,h1,h2,h3⟩|⟨h0,h1,h2⟩|⟨h0,h1,h2,h3⟩|⟨h1,h2,d,hd,h3⟩
 ·rw[tb (by rw[h0];decide),tb (by omega),tb (by omega)];exact h1
 ·rw[tb (by rw[h0];decide),tl h1.1];exact⟨lh _,show (0:Int)<=9999 by decide⟩
 ·rw[tl h0];exact⟨h1.1,by show p.n<=9999;omega⟩
 ·by_cases h0:p.times=true
  ·rw[tl h0];exact⟨h1.1,by show p.n<=9999;omega⟩
  ·rw[tb h0,tb (by omega),tl (by omega)];exact⟨lh _,show (0:Int)<=9999 by decide⟩
theorem zBI{low:List Nat}{ps:List yX}(h:∀p∈ps,tB low p):∀q∈rY ps,0<=q.num/\q.num<=9999:=fun q hq=>by
 cases ps with
 | nil=>cases hq
 | cons p r =>
   rcases l6.1 hq with rfl|hq
   ·exact Fb (h p (by simp)) _
   ·obtain⟨p',hp',rfl⟩:=p7.1 hq
    exact Fb (h p' (by simp[hp'])) _
theorem zB4(h:yA M)(hG:∀i,i<M.rules.length->oM (xF M.heads (vE M i).head) (vE M i) (G i)):∀x∈vC M G,gQ x:=fun x hx=>by
 unfold vC at hx;rcases pt.1 hx with hx|hx
 ·rcases pt.1 hx with hx|hx
  ·obtain⟨i,-,rfl⟩:=p7.1 hx
   unfold gW;by_cases h3:i<3
   ·have hn:=h.nums i h3
    rw[tl h3];exact⟨.inl rfl,hn.1,by show M.lo i<=9999;omega,by show 0<=M.hi i;omega,by show M.hi i<=9999;omega,fun a ha=>absurd ha (by simp),by simp,ZJ,fun q=>absurd (show (1:Int)=3 from q) (by decide)⟩
   ·rw[tb h3]
    exact⟨.inr (.inl rfl),lh _,show (0:Int)<=9999 by decide,lh _,show (0:Int)<=9999 by decide,fun a ha=>absurd ha (by simp),by simp,ZJ,fun q=>absurd (show (2:Int)=3 from q) (by decide)⟩
  ·obtain⟨i,hi,rfl⟩:=p7.1 hx
   have hi2:=pm.1 hi;have hr:=h.rules _ (pW hi2);have hg:=hG i hi2;obtain⟨t,l,k,-,hD⟩:=hg.den;have hb:=Zm hD;have hl:(rY (vE M i).parts).length=(vE M i).parts.length:=Uo _;exact⟨.inr (.inr (.inl rfl)),lh _,show (0:Int)<=9999 by decide,lh _,show (0:Int)<=9999 by decide,fun a ha=>zBI hr.parts.2.2 _ (by unfold Q5;rw[p8,pb ha];exact fe ha),by show (rY (vE M i).parts).length<=10000;have:=hr.parts.2.1;omega,hg.good,fun _=>⟨by show 0<(rY (vE M i).parts).length;have:=hr.parts.1;omega,hb.1,hb.2⟩⟩
 ·obtain⟨p,-,rfl⟩:=p7.1 hx
  exact⟨.inr (.inr (.inr rfl)),lh _,show (0:Int)<=9999 by decide,lh _,show (0:Int)<=9999 by decide,fun a ha=>absurd ha (by simp[cQ]),by simp[cQ],ZJ,fun q=>absurd (show (4:Int)=3 from q) (by decide)⟩
theorem zJL(hG:∀i,i<M.rules.length->oM (xF M.heads (vE M i).head) (vE M i) (G i)):∀x∈vC M G,x.nd.length<=10000:=fun x hx=>by
 unfold vC at hx;rcases pt.1 hx with hx|hx
 ·rcases pt.1 hx with hx|hx
  ·obtain⟨i,-,rfl⟩:=p7.1 hx
   unfold gW;split <;> simp
  ·obtain⟨i,hi,rfl⟩:=p7.1 hx
   have:=(hG i (pm.1 hi)).cnt;show (G i).nd.length<=10000;omega
 ·obtain⟨p,-,rfl⟩:=p7.1 hx
  simp[cQ]
end Go.Proofs.YtnbpdffdnphbeabGreatDoor
