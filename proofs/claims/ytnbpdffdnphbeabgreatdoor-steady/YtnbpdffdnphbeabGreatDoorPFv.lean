import Derived.Test.YtnbpdffdnphbeabGreatDoorPFtxt
import Derived.Test.YtnbpdffdnphbeabGreatDoorMRowF
namespace Go.Proofs.YtnbpdffdnphbeabGreatDoor
variable{a h i:Nat}{t:yH}
structure FV where
 ar:Nat->Int
 has:Nat->Bool
 val:Nat->Int
variable{v:FV}
def Yx(x:Int)(k:Nat)(y:Int):Bool:=if k=0 then decide (x<y) else if k=1 then decide (x<=y) else if k=2 then decide (x=y) else if k=3 then decide (x≠y) else if k=4 then decide (y<=x) else decide (y<x)
def Ko(v:FV)(t:yH):Bool:=if t.kind=0 then true else if t.kind=1 then decide (v.ar t.x.toNat=1) else if t.kind=2 then v.has t.x.toNat else if t.kind=3 then Yx (v.ar t.x.toNat) t.mark.toNat t.n else Yx (v.ar t.x.toNat) t.mark.toNat (v.ar t.y.toNat)
def nE(v:FV)(t:yH):Bool:=Ko v t != t.not
def sf(v:FV):Bool->Bool->List yH->Bool
 | s,r,[]=>s || r
 | s,r,t::l=>if t.or=true then sf v (s || r) (nE v t) l else sf v s (r&&nE v t) l
def sE(v:FV)(ps:List xJ):Bool:=ps.all λp=>decide (p.head<0) || v.has p.head.toNat
def A3(v:FV)(wh:Bool):List yH->Bool
 | []=>true != wh
 | t::l=>sf v false (nE v t) l != wh
def ZN(v:FV)(r:vR):Bool:=sE v r.parts&&A3 v r.whole r.tests
structure BK(M:yO)(v:FV):Prop where
 num:∀i,i<3->M.lo i<=v.ar i/\v.ar i<=M.hi i
 flag:∀i,3<=i->i<5->v.ar i=0\/v.ar i=1
def tH(M:yO):List Bool:=(List.range 64).map λq=>M.over (q/8) (q%8)
theorem sA(M:yO):(tH M).length=64:=by unfold tH;simp
theorem FK(M:yO){b:Nat}(ha:a<8)(hb:b<8):gA (tH M) a b=M.over a b:=by
 unfold gA tH;have hq:a*8+b<64:=by omega
 simp[List.getD,hq,show (a*8+b)/8=a by omega,show (a*8+b)%8=b by omega]
theorem sN{hs:List Bool}{a:Int}(h0:0<=a)(h1:a.toNat<hs.length):jO hs a=hs.getD a.toNat false:=by
 unfold jO;rw[tz h0,tz (show a<(hs.length:Int) by omega)];rfl
def Hq(E:Jm):GA:=⟨Bool,λt=>Vd E [] (lT t),λx y=>x&&y,λx y=>x || y,λ_ x => !x,λN i _ b=>0<=i/\i.toNat<N.length/\(J0 E N).getD i.toNat false=b⟩
theorem Nr(E:Jm)(N M:List zJ)(h:a<N.length):(J0 E (N++M)).getD a false=(J0 E N).getD a false:=by
 have:=RX E (N++M) N.length a h (by rw[tm];omega);rw[List.take_left' rfl]at this;exact this.symm
theorem Xt(E:Jm)(N:List zJ)(x:zJ):(J0 E (N++[x])).getD N.length false=Vd E (J0 E N) x:=by
 rw[Ns E (N++[x]) N.length (by simp),List.take_left' rfl];have:=OG N x [];rw[mt]at this;rw[this]
theorem SC(E:Jm)(hs:List Bool)(t:yH):Vd E hs (lT t)=Vd E [] (lT t):=by
 have hk:=XG t;have h1:¬(lT t).kind=1:=by omega
 have h2:¬(lT t).kind=2:=by omega
 have h3:¬(lT t).kind=3:=by omega
 unfold Vd;simp only[tj h1,tj h2,tj h3]
theorem MC(E:Jm)(low:List Nat):(Hq E).Ok low where
 ext:=λN M i k b ⟨h0,h1,h2⟩=>⟨h0,by rw[tm];omega,by rw[Nr E N M h1];exact h2⟩
 core:=λN t _=>⟨by omega,by rw[tm];simp,by rw[fm,Xt,SC];rfl⟩
 and:=λN l kl (x:Bool) r kr (y:Bool) ⟨a0,a1,a2⟩ ⟨b0,b1,b2⟩ _ _=>by
  refine⟨by omega,by rw[tm];simp,?_⟩;rw[fm,Xt];show (jO (J0 E N) l&&jO (J0 E N) r)=(x&&y);rw[sN a0 (by rw[gE];exact a1),sN b0 (by rw[gE];exact b1),a2,b2]
 or:=λN l kl (x:Bool) r kr (y:Bool) ⟨a0,a1,a2⟩ ⟨b0,b1,b2⟩=>by
  refine⟨by omega,by rw[tm];simp,?_⟩;rw[fm,Xt];show (jO (J0 E N) l || jO (J0 E N) r)=(x || y);rw[sN a0 (by rw[gE];exact a1),sN b0 (by rw[gE];exact b1),a2,b2]
 not:=λN l kl (x:Bool) ⟨a0,a1,a2⟩=>by
  refine⟨by omega,by rw[tm];simp,?_⟩;rw[fm,Xt];show (!jO (J0 E N) l)=(!x);rw[sN a0 (by rw[gE];exact a1),a2]
structure J9(aa:List Nat)(v:FV)(E:Jm):Prop where
 inp:∀i,i<5->E.inp (xC i)=v.ar i
 has:∀d∈aa,E.has (xU 99 d)=v.has d
def qj(E:Jm)(x:GX):Bool:=x (Hq E)
theorem IE{k:Nat}(hk:k<6)(x y:Int):Ay x (aL k) y=Yx x k y:=by
 have h:k=0\/k=1\/k=2\/k=3\/k=4\/k=5:=by omega
 unfold Ay Yx;rcases Int.lt_trichotomy x y with h1|h1|h1
 ·rw[tr h1]
  rcases h with rfl|rfl|rfl|rfl|rfl|rfl
  ·rw[tr rfl,tz h1];decide
  ·rw[i6,tr rfl,tz (show x<=y by omega)];decide
  ·rw[i6,i6,tr rfl,ty (show ¬x=y by omega)];decide
  ·rw[i6,i6,i6,tr rfl,tz (show x≠y by omega)];decide
  ·rw[i6,i6,i6,i6,tr rfl,ty (show ¬y<=x by omega)];decide
  ·rw[i6,i6,i6,i6,i6,ty (show ¬y<x by omega)];decide
 ·rw[i6,tr h1]
  rcases h with rfl|rfl|rfl|rfl|rfl|rfl
  ·rw[tr rfl,ty (show ¬x<y by omega)];decide
  ·rw[i6,tr rfl,tz (show x<=y by omega)];decide
  ·rw[i6,i6,tr rfl,tz h1];decide
  ·rw[i6,i6,i6,tr rfl,ty (show ¬x≠y by omega)];decide
  ·rw[i6,i6,i6,i6,tr rfl,tz (show y<=x by omega)];decide
  ·rw[i6,i6,i6,i6,i6,ty (show ¬y<x by omega)];decide
 ·rw[i6,i6]
  rcases h with rfl|rfl|rfl|rfl|rfl|rfl
  ·rw[tr rfl,ty (show ¬x<y by omega)];decide
  ·rw[i6,tr rfl,ty (show ¬x<=y by omega)];decide
  ·rw[i6,i6,tr rfl,ty (show ¬x=y by omega)];decide
  ·rw[i6,i6,i6,tr rfl,tz (show x≠y by omega)];decide
  ·rw[i6,i6,i6,i6,tr rfl,tz (show y<=x by omega)];decide
  ·rw[i6,i6,i6,i6,i6,tz (show y<x by omega)];decide
theorem NV{aa:List Nat}{E:Jm}(hE:J9 aa v E)(ht:vO (xP aa h) t):Vd E [] (lT t)=Ko v t:=by
 unfold lT Ko;rcases ht with h0|⟨h0,x1,x2⟩|⟨h0,d,hd,hx⟩|⟨h0,⟨x1,x2⟩,⟨y1,y2⟩,⟨m1,m2⟩,n1,n2⟩
 ·rw[tr h0,tr h0];rfl
 ·rw[tj (show ¬t.kind=0 by omega),tr h0,tj (show ¬t.kind=0 by omega),tr h0,<-hE.inp t.x.toNat (by omega)];rfl
 ·rw[tj (show ¬t.kind=0 by omega),tj (show ¬t.kind=1 by omega),tr h0,tj (show ¬t.kind=0 by omega),tj (show ¬t.kind=1 by omega),tr h0,hx,fm]
  have hm:d∈aa:=by unfold xP at hd;rw[mu]at hd;exact cr hd.2
  rw[<-hE.has d hm];rfl
 ·have e1:=hE.inp t.x.toNat (by omega)
  have e2:=hE.inp t.y.toNat (by omega);rcases h0 with h0|h0
  ·rw[tj (show ¬t.kind=0 by omega),tj (show ¬t.kind=1 by omega),tj (show ¬t.kind=2 by omega),tr h0,tj (show ¬t.kind=0 by omega),tj (show ¬t.kind=1 by omega),tj (show ¬t.kind=2 by omega),tr h0,<-IE (by omega),<-e1];rfl
  ·rw[tj (show ¬t.kind=0 by omega),tj (show ¬t.kind=1 by omega),tj (show ¬t.kind=2 by omega),tj (show ¬t.kind=3 by omega),tj (show ¬t.kind=0 by omega),tj (show ¬t.kind=1 by omega),tj (show ¬t.kind=2 by omega),tj (show ¬t.kind=3 by omega),<-IE (by omega),<-e1,<-e2]
   show Ay (E.inp (xC t.x.toNat)) (aL t.mark.toNat) (if xC t.y.toNat=[] then 0 else E.inp (xC t.y.toNat))=_;rw[tj (by have:=Vr t.y.toNat;intro e;rw[e]at this;cases this)]
theorem I9{aa:List Nat}{E:Jm}(hE:J9 aa v E)(ht:vO (xP aa h) t):qj E (pU t)=nE v t:=by
 have hc:=NV hE ht;unfold qj pU nE;rw[<-hc];cases t.not
 ·show Vd E [] (lT t)=(Vd E [] (lT t) != false)
  cases Vd E [] (lT t) <;> rfl
 ·show (!Vd E [] (lT t))=(Vd E [] (lT t) != true)
  cases Vd E [] (lT t) <;> rfl
def Hy(E:Jm):Option GX->Bool
 | none=>false
 | some a=>qj E a
theorem Gi(E:Jm)(acc:Option GX)(c:GX):qj E (JX acc c)=(Hy E acc || qj E c):=by
 cases acc with
 | none=>rfl
 | some a=>rfl
theorem LW{aa:List Nat}{E:Jm}(hE:J9 aa v E)(l:List yH):∀(acc:Option GX) (c:GX),(∀t∈l,vO (xP aa h) t)->qj E (Kh acc c l)=sf v (Hy E acc) (qj E c) l:=by
 induction l with
 | nil=>intro acc c _;rw[Nj,Gi];rfl
 | cons t r ih =>
   intro acc c hl;have ht:=I9 hE (hl t (by simp));have hr:∀q∈r,vO (xP aa h) q:=λq hq=>hl q (py _ hq);rw[RS,sf];cases ho:t.or
   ·rw[i6,i6,ih _ _ hr,<-ht];rfl
   ·rw[tr rfl,tr rfl,ih _ _ hr,<-ht,<-Gi];rfl
theorem MK{aa:List Nat}{E:Jm}(hE:J9 aa v E)(wh:Bool){l:List yH}(hl:∀q∈t::l,vO (xP aa h) q):qj E (A4 wh t l)=A3 v wh (t::l):=by
 have e:=LW hE l none (pU t) (λq hq=>hl q (py _ hq));rw[I9 hE (hl t (by simp))]at e;show qj E (A4 wh t l)=(sf v false (nE v t) l != wh);rw[<-show qj E (Kh none (pU t) l)=sf v false (nE v t) l from e];unfold A4;cases wh
 ·rw[i6]
  cases qj E (Kh none (pU t) l) <;> rfl
 ·rw[tr rfl]
  show (!qj E (Kh none (pU t) l))=_;cases qj E (Kh none (pU t) l) <;> rfl
theorem RV{M:yO}{g:GR}(hr:oX M.aa (uW M i))(hg:eI (xP M.aa (uW M i).head) (uW M i) g){E:Jm}(hE:J9 M.aa v E):jO (J0 E g.nd) g.root=A3 v (uW M i).whole (uW M i).tests:=by
 obtain⟨t,l,k,aM,hD⟩:=hg.den;obtain⟨h0,h1,h2⟩:=hD (Hq E) (MC E _);have hT:=hr.tests.2.2;rw[aM]at hT ⊢;rw[sN h0 (by rw[gE];exact h1),h2];exact MK hE _ hT
theorem OM{M:yO}{r:vR}(hr:oX M.aa r){ins cs:List Bs}{s:vH}(aA:∀i,i<3->0<=zQ ins (xC i))(aC:∀d,d<4->zQ ins (xU 99 d)<0)(hE:J9 M.aa v (ZI ins cs s)):tF s ((wF r.parts).map (qJ ins cs))=sE v r.parts:=by
 have one:∀p m,mJ (xP M.aa r.head) p->(!(decide ((qJ ins cs (rR m p)).kind=3) && !jO s.has (qJ ins cs (rR m p)).place))=(decide (p.head<0) || v.has p.head.toNat):=λp m hp=>by
  have h4:=hr.head;obtain⟨mi,ti,n,nu,hd⟩:=p;rcases hp with ⟨h0,h1,h2,h3⟩|⟨h0,h1,h2⟩|⟨h0,h1,h2,h3⟩|⟨h1,h2,d,aP,h3⟩
  ·simp only at h0 h1 h2 h3
   subst h0 h2 h3;rfl
  ·simp only at h0 h1 h2
   subst h0 h2;have e2:rR m ⟨mi,false,n,nu,-1⟩=⟨m,false,0,xC nu.toNat⟩:=by simp[rR,h1.1]
   have hk:(qJ ins cs ⟨m,false,0,xC nu.toNat⟩).kind=2:=by
    have:=aA nu.toNat (by omega);have aD:¬xC nu.toNat=[]:=(by intro e;have:=Vr nu.toNat;rw[e]at this;cases this);unfold qJ rm;simp only;rw[tj aD,i6]
   rw[e2,hk];rfl
  ·simp only at h0 h1 h2 h3
   subst h0 h3;have e2:rR m ⟨mi,true,n,nu,-1⟩=⟨m,true,n,xC nu.toNat⟩:=by simp[rR,h2.1]
   have hk:(qJ ins cs ⟨m,true,n,xC nu.toNat⟩).kind=2:=by
    have:=aA nu.toNat (by omega);have aD:¬xC nu.toNat=[]:=(by intro e;have:=Vr nu.toNat;rw[e]at this;cases this);unfold qJ rm;simp only;rw[tj aD,i6]
   rw[e2,hk];rfl
  ·simp only at h1 h2 h3
   subst h2 h3;obtain⟨hm,aR⟩:=Ql aP;have hh:=hE.has d hm;have hc:=aC d (by omega)
   have key:∀(st:Bool) (z:Int),(!(decide ((qJ ins cs ⟨m,st,z,xU 99 d⟩).kind=3) && !jO s.has (qJ ins cs ⟨m,st,z,xU 99 d⟩).place))=v.has d:=λst z=>by
    have aD:¬xU 99 d=[]:=(by unfold xU;simp);have k1:(qJ ins cs ⟨m,st,z,xU 99 d⟩).kind=3:=(by unfold qJ rm;simp only;rw[tj aD,tr hc]);have k2:(qJ ins cs ⟨m,st,z,xU 99 d⟩).place=zQ cs (xU 99 d):=(by unfold qJ wu;simp only;rw[tj aD,tr hc]);rw[k1,k2,<-hh];show (!(true && !jO s.has (zQ cs (xU 99 d))))=jO s.has (zQ cs (xU 99 d));cases jO s.has (zQ cs (xU 99 d)) <;> rfl
   have e3:(decide ((d:Int)<0) || v.has (d:Int).toNat)=v.has d:=(by rw[ty (by omega),fm];rfl);rw[e3];cases ti
   ·have e2:rR m ⟨mi,false,n,-1,d⟩=⟨m,false,0,xU 99 d⟩:=by simp[rR]
    rw[e2];exact key _ _
   ·have e2:rR m ⟨mi,true,n,-1,d⟩=⟨m,true,n,xU 99 d⟩:=by simp[rR]
    rw[e2];exact key _ _
 unfold tF sE
 cases aI:r.parts with
 | nil=>rfl
 | cons p rr =>
   have aF:=hr.parts.2.2;rw[aI]at aF;rw[show wF (p::rr)=rR false p::rr.map λq=>rR q.minus q from rfl,cf,ff,ff,one p false (aF p (by simp)),List.map_map,List.all_map];congr 1
   have h2:∀q∈rr,mJ (xP M.aa r.head) q:=λq hq=>aF q (py _ hq);clear aF aI
   induction rr with
   | nil=>rfl
   | cons q rr ih =>
     rw[ff,ff,ih λx hx=>h2 x (py _ hx)];congr 1
     exact one q q.minus (h2 q (by simp))
theorem Kv{M:yO}(h:yR M)(hi:i<M.rules.length){g:GR}(hg:eI (xP M.aa (uW M i).head) (uW M i) g){ins cs:List Bs}{s:vH}(aA:∀i,i<3->0<=zQ ins (xC i))(aC:∀d,d<4->zQ ins (xU 99 d)<0)(hE:J9 M.aa v (ZI ins cs s)):kY (qT ins cs (rD (uW M i) i g)) s=ZN v (uW M i):=by
 have hr:=h.rules _ (fV hi);unfold kY ZN;rw[<-OM hr aA aC hE,<-RV hr hg hE];show (tF s ((wF (uW M i).parts).map (qJ ins cs))&&jO (fD s (g.nd.map (lF ins cs)) []) g.root)=_;rw[MM];rfl
variable {M:yO} {G:Nat->GR}
theorem DF(M:yO)(G:Nat->GR):aE (yM M G)=(List.range M.rules.length).map λi=>rD (uW M i) i (G i):=by
 unfold aE yM;rw[fb,fb]
 have h1:((List.range 5).map (rQ M)).filter (λx=>decide (x.kind=3))=[]:=List.filter_eq_nil_iff.2 λx hx=>by
  obtain⟨i,-,rfl⟩:=pd.1 hx;rw[ty (tY M i).1];decide
 have h2:((List.range M.rules.length).map λi=>rD (uW M i) i (G i)).filter (λx=>decide (x.kind=3))=(List.range M.rules.length).map λi=>rD (uW M i) i (G i):=List.filter_eq_self.2 λx hx=>by
  obtain⟨i,-,rfl⟩:=pd.1 hx;rfl
 have h3:((Jv M).map dY).filter (λx=>decide (x.kind=3))=[]:=List.filter_eq_nil_iff.2 λx hx=>by
  obtain⟨i,-,rfl⟩:=pd.1 hx;exact(show ¬(decide ((4:Int)=3))=true by decide)
 rw[h1,h2,h3];simp
theorem Vy(M:yO)(G:Nat->GR):yC (yM M G)=(List.range 5).map λi=>bE (rQ M i):=by
 unfold yC;rw[Qv,lu];unfold yM;rw[fb,fb]
 have h1:((List.range 5).map (rQ M)).filter (λx=>decide (x.kind=1\/x.kind=2))=(List.range 5).map (rQ M):=List.filter_eq_self.2 λx hx=>by
  obtain⟨i,-,rfl⟩:=pd.1 hx;rw[nQ];split <;> decide
 have h2:((List.range M.rules.length).map λi=>rD (uW M i) i (G i)).filter (λx=>decide (x.kind=1\/x.kind=2))=[]:=List.filter_eq_nil_iff.2 λx hx=>by
  obtain⟨i,-,rfl⟩:=pd.1 hx;exact(show ¬(decide ((3:Int)=1\/(3:Int)=2))=true by decide)
 have h3:((Jv M).map dY).filter (λx=>decide (x.kind=1\/x.kind=2))=[]:=List.filter_eq_nil_iff.2 λx hx=>by
  obtain⟨i,-,rfl⟩:=pd.1 hx;exact(show ¬(decide ((4:Int)=1\/(4:Int)=2))=true by decide)
 rw[h1,h2,h3];simp
def sO:List Bs:=(List.range 5).map xC
theorem Gu(M:yO)(G:Nat->GR):qE (yM M G)=sO:=by
 unfold qE sO;rw[Vy,List.map_map];refine List.map_congr_left λi _=>?_;show (bE (rQ M i)).name=_;rw[iX,nP]
theorem D6:∀i,i<5->zQ sO (xC i)=(i:Int):=by decide
theorem Ik:∀d,d<4->zQ sO (xU 99 d) = -1:=by decide
theorem V4:∀i,i<4->∀j,j<4->xU 99 i=xU 99 j->i=j:=by decide
theorem Ke{a:List zE}(h:∀x∈a,x.kind≠3):∀acc,uY a acc=acc:=by
 induction a with
 | nil=>intro acc;rfl
 | cons x r ih=>intro acc;rw[uY,tj (λq=>h x (by simp) q.1)];exact ih (λy hy=>h y (py _ hy)) acc
theorem uj(M:yO)(G:Nat->GR)(L:List Nat):∀acc:List Nat,(∀i∈L,(uW M i).head<4)->(∀d∈acc,d<4)->uY (L.map λi=>rD (uW M i) i (G i)) (acc.map (xU 99))=((L.map λi=>(uW M i).head).foldl Xf acc).map (xU 99):=by
 induction L with
 | nil=>intro acc _ _;rfl
 | cons i r ih =>
   intro acc hL ha;have hi:=hL i (by simp);rw[cf,cf,uY,List.foldl_cons]
   have hf:zQ (acc.map (xU 99)) (xU 99 (uW M i).head)<0 ↔ (uW M i).head ∉ acc:=by
    unfold zQ;rw[nW];constructor
    ·intro h hm;exact h (pd.2 ⟨_,hm,rfl⟩)
    ·intro h hm
     obtain⟨d,hd,e⟩:=pd.1 hm;exact h (V4 d (ha d hd) _ hi e ▸ hd)
   have e:(if (rD (uW M i) i (G i)).kind=3/\zQ (acc.map (xU 99)) (rD (uW M i) i (G i)).ae<0 then acc.map (xU 99)++[(rD (uW M i) i (G i)).ae] else acc.map (xU 99))=(Xf acc (uW M i).head).map (xU 99):=by
    unfold Xf;by_cases hm:(uW M i).head∈acc
    ·rw[tr hm,tj (λq=>hf.1 q.2 hm)]
    ·rw[tj hm,tr ⟨rfl,hf.2 hm⟩,bj];rfl
   rw[e];refine ih _ (λj hj=>hL j (py _ hj)) λd hd=>?_;rcases BE.1 hd with h1|h1
   ·exact ha d h1
   ·omega
theorem Ui(M:yO):((List.range M.rules.length).map λi=>(uW M i).head)=M.rules.map vR.head:=by
 refine List.ext_getElem (by simp) λi h1 h2=>?_;simp at h1;simp[uW,List.getD,h1]
theorem bQ(h:yR M)(G:Nat->GR):zX (yM M G)=M.aa.map (xU 99):=by
 unfold zX yM;rw[Q5,Q5,Ke (a:=(List.range 5).map (rQ M)) (λx hx=>by obtain⟨i,-,rfl⟩:=pd.1 hx;exact(tY M i).1)];have:=uj M G (List.range M.rules.length) [] (λi hi=>Xl h (me.1 hi)) (λd hd=>by cases hd);rw[List.map_nil]at this;rw[this,Ke (λx hx=>by obtain⟨i,-,rfl⟩:=pd.1 hx;exact(show ¬(4:Int)=3 by decide)),Ui,h.aa];rfl
theorem RQ(M:yO)(G:Nat->GR):vQ (yM M G)=(List.range M.rules.length).map (xU 114):=by
 rw[Qp,DF,List.map_map];rfl
theorem Z6:∀n,n<9->∀i,i<n->zQ ((List.range n).map (xU 114)) (xU 114 i)=(i:Int):=by decide
theorem OU(h:yR M){b:Nat}(ho:M.over a b=true):(a,b)∈Jv M:=by
 have:=h.over a b ho;unfold Jv;refine bg.2 ⟨a,me.2 (by omega),bg.2 ⟨b,me.2 (by omega),?_⟩⟩;rw[tr ho];simp
theorem uq(h:yR M)(G:Nat->GR):qN (vQ (yM M G)) (yM M G) gZ=tH M:=by
 have h8:=h.aj;rw[RQ]
 have key:∀a b,a<8->b<8->gA (qN ((List.range M.rules.length).map (xU 114)) (yM M G) gZ) a b=gA (tH M) a b:=λa b ha hb=>by
  rw[XZ _ (yM M G) ha hb gZ yX,Eu,bt,FK M ha hb];cases ho:M.over a b
  ·rw[List.any_eq_false]
   intro x hx hp;unfold se at hp;simp only[ma,ml]at hp;rcases Xw hx with ⟨k,hk,rfl⟩|⟨j,hj,rfl⟩|⟨p,hp',rfl⟩
   ·exact x' hp.1 (tY M k).2
   ·exact x' hp.1 (show ¬(3:Int)=4 by decide)
   ·obtain⟨p1,p2,p3⟩:=KU h hp'
    obtain⟨-,ea,eb⟩:=hp;have ea:zQ ((List.range M.rules.length).map (xU 114)) (xU 114 p.1)=(a:Int):=ea;have eb:zQ ((List.range M.rules.length).map (xU 114)) (xU 114 p.2)=(b:Int):=eb;rw[Z6 _ (by omega) p.1 (by omega)]at ea;rw[Z6 _ (by omega) p.2 p2]at eb;rw[show a=p.1 by omega,show b=p.2 by omega,p3]at ho;cases ho
  ·rw[mw]
   have aQ:=h.over a b ho;refine⟨dY (a,b),?_,?_⟩
   ·unfold yM
    exact List.mem_append_right _ (pd.2 ⟨_,OU h ho,rfl⟩)
   ·unfold se dY
    simp only;rw[Z6 _ (by omega) a (by omega),Z6 _ (by omega) b aQ.2.1];simp
 have hl:(qN ((List.range M.rules.length).map (xU 114)) (yM M G) gZ).length=64:=by rw[mY];exact yX
 have aT:=sA M;refine List.ext_getElem (by omega) λq h1 h2=>?_;have:=key (q/8) (q%8) (by omega) (by omega);unfold gA at this;rw[show q/8*8+q%8=q by omega]at this;simpa[List.getD,h1,h2] using this
def sk(M:yO)(v:FV):vH:=⟨(List.range 5).map v.ar,M.aa.map v.has,[]⟩
def H5(M:yO)(y:vH):FV:=⟨λi=>y.inputs.getD i 0,λd=>jO y.has (zQ (M.aa.map (xU 99)) (xU 99 d)),λ_=>0⟩
theorem QK(cs:List Bs)(y:vH)(hl:y.inputs.length=5)(hi:i<5):(ZI sO cs y).inp (xC i)=y.inputs.getD i 0:=by
 show tQ y.inputs (zQ sO (xC i))=_;rw[D6 i hi];unfold tQ;rw[tr ⟨by omega,by omega⟩,fm]
theorem L9(M:yO)(y:vH)(hl:y.inputs.length=5):J9 M.aa (H5 M y) (ZI sO (M.aa.map (xU 99)) y):=⟨λ_ hi=>QK _ y hl hi,λ_ _=>rfl⟩
theorem aS{l:List Bs}{nm:Bs}(h:nm∈l):∃a:Nat,a<l.length/\zQ l nm=(a:Int)/\l.getD a []=nm:=by
 have h1:¬zQ l nm<0:=λq=>(nW nm l 0).1 q h;have h2:=fF l nm;refine⟨(zQ l nm).toNat,by omega,by omega,dQ (by omega)⟩
theorem MA(h:yR M)(v:FV):J9 M.aa v (ZI sO (M.aa.map (xU 99)) (sk M v)):=by
 refine⟨λi hi=>?_,λd hd=>?_⟩
 ·rw[QK _ (sk M v) (by simp[sk]) hi]
  show ((List.range 5).map v.ar).getD i 0=_;simp[List.getD,hi]
 ·show jO (M.aa.map v.has) (zQ (M.aa.map (xU 99)) (xU 99 d))=_
  obtain⟨a,ha,e1,e2⟩:=aS (l:=M.aa.map (xU 99)) (pd.2 ⟨d,hd,rfl⟩);rw[pt]at ha
  have h4:∀x∈M.aa,x<4:=λx hx=>by
   rw[h.aa]at hx;rcases(dP (M.rules.map vR.head) [] (x:=x)).1 hx with h1|h1
   ·cases h1
   ·obtain⟨r,hr,rfl⟩:=pd.1 h1;exact(h.rules r hr).head
  have e3:M.aa[a]=d:=by
   rw[mq,List.getElem?_map,pm ha]at e2;exact V4 _ (h4 _ (dq ha)) d (h4 d hd) e2
  rw[e1,sN (by omega) (by rw[pt];omega),fm];simp[List.getD,ha,e3]
theorem oO(hi:i<5):jV (yC (yM M G)) i=bE (rQ M i):=by
 unfold jV;rw[Vy];simp[List.getD,hi]
theorem dL(M:yO)(G:Nat->GR):(yC (yM M G)).length=5:=by rw[Vy];simp
theorem dM(h:i<3):bE (rQ M i)=⟨xC i,false,M.lo i,M.hi i⟩:=by unfold bE rQ;rw[tr h];rfl
theorem iY(h:¬i<3):bE (rQ M i)=⟨xC i,true,0,0⟩:=by unfold bE rQ;rw[tj h];rfl
theorem Of(hv:BK M v):wW (yC (yM M G)) M.aa.length (sk M v):=by
 have hl:=dL M G;refine⟨by rw[hl];simp[sk],by simp[sk],λi hi hn=>?_,λi hi hn=>?_⟩
 ·rw[hl]at hi
  have e:(sk M v).inputs.getD i 0=v.ar i:=by show ((List.range 5).map v.ar).getD i 0=_;simp[List.getD,hi]
  unfold xZ at hn;rw[oO hi]at hn ⊢;by_cases h3:i<3
  ·rw[dM h3,e];exact hv.num i h3
  ·rw[iY h3]at hn;cases hn
 ·rw[hl]at hi
  have e:(sk M v).inputs.getD i 0=v.ar i:=by show ((List.range 5).map v.ar).getD i 0=_;simp[List.getD,hi]
  unfold xZ at hn;rw[oO hi]at hn;by_cases h3:i<3
  ·rw[dM h3]at hn;cases hn
  ·rw[e];exact hv.flag i (by omega) hi
theorem Oe{y:vH}(hy:wW (yC (yM M G)) M.aa.length y):BK M (H5 M y):=by
 have hl:=dL M G;refine⟨λi h3=>?_,λi h3 h5=>?_⟩
 ·have:=hy.num i (by omega) (by unfold xZ;rw[oO (by omega),dM h3];rfl)
  rw[oO (by omega),dM h3]at this;exact this
 ·exact hy.flag i (by omega) (by unfold xZ;rw[oO h5,iY (by omega)];rfl)
def VI(M:yO)(i j:Nat):Prop:=i≠j/\(uW M i).head=(uW M j).head/\gA (zT (tH M)) i j=false/\gA (zT (tH M)) j i=false
theorem UW(h:yR M)(hi:i<M.rules.length):(uW M i).head∈M.aa:=by
 rw[h.aa];exact(dP (M.rules.map vR.head) []).2 (.inr (pd.2 ⟨uW M i,fV hi,rfl⟩))
theorem DH(h:yR M)(hG:∀i,i<M.rules.length->eI (xP M.aa (uW M i).head) (uW M i) (G i)){rs:List MX}(hr:rs.map Prod.fst=uJ ((yC (yM M G)).map yA.name) ((xR (yM M G)).map Prod.fst) (yM M G))(i j:Nat) :
 K3 (yC (yM M G)) (xR (yM M G)).length rs (Xv (yM M G)) i j ↔ i<j/\j<M.rules.length/\VI M i j/\∃v,BK M v/\ZN v (uW M i)=true/\ZN v (uW M j)=true:=by
 have h8:=h.aj;have hc:jN (yM M G):=Er (by rw[YM h hG]);obtain⟨hl,aK⟩:=U5 hc hr;rw[DF,pt,nl]at hl aK
 have aB:∀k,k<M.rules.length->(qW rs k).1=qT sO (M.aa.map (xU 99)) (rD (uW M k) k (G k)):=λk hk=>by
  rw[aK k hk,Gu,bQ h];congr 1
  simp[List.getD,hk]
 have aO:Xv (yM M G)=zT (tH M):=by unfold Xv;rw[uq h]
 have aN:(xR (yM M G)).length=M.aa.length:=by rw[sI hc,bQ h,pt]
 have aA:∀k,k<3->0<=zQ sO (xC k):=λk hk=>by rw[D6 k (by omega)];omega
 have aC:∀d,d<4->zQ sO (xU 99 d)<0:=λd hd=>by rw[Ik d hd];decide
 have can:∀a b,a<M.rules.length->b<M.rules.length->(Ar (yC (yM M G)) M.aa.length (qW rs a).1 (qW rs b).1 ↔ ∃v,BK M v/\ZN v (uW M a)=true/\ZN v (uW M b)=true):=λa b ha hb=>by
  rw[aB a ha,aB b hb];constructor
  ·rintro⟨y,hy,h1,h2⟩
   have hE:=L9 M y (by rw[hy.inl,dL]);rw[Kv h ha (hG a ha) aA aC hE]at h1;rw[Kv h hb (hG b hb) aA aC hE]at h2;exact⟨_,Oe hy,h1,h2⟩
  ·rintro⟨v,hv,h1,h2⟩
   have hE:=MA h v;refine⟨sk M v,Of hv,?_,?_⟩
   ·rw[Kv h ha (hG a ha) aA aC hE];exact h1
   ·rw[Kv h hb (hG b hb) aA aC hE];exact h2
 have aH:∀a b,a<M.rules.length->b<M.rules.length->(KO rs (zT (tH M)) a b=true ↔ (uW M a).head=(uW M b).head/\gA (zT (tH M)) a b=false/\gA (zT (tH M)) b a=false):=λa b ha hb=>by
  unfold KO;rw[aB a ha,aB b hb,UZ,UZ]
  have aG:(qT sO (M.aa.map (xU 99)) (rD (uW M a) a (G a))).ae=(qT sO (M.aa.map (xU 99)) (rD (uW M b) b (G b))).ae ↔ (uW M a).head=(uW M b).head:=by
   show zQ (M.aa.map (xU 99)) (xU 99 (uW M a).head)=zQ (M.aa.map (xU 99)) (xU 99 (uW M b).head) ↔ _;obtain⟨p,-,e1,e2⟩:=aS (l:=M.aa.map (xU 99)) (pd.2 ⟨_,UW h ha,rfl⟩);obtain⟨q,-,f1,f2⟩:=aS (l:=M.aa.map (xU 99)) (pd.2 ⟨_,UW h hb,rfl⟩);constructor
   ·intro e
    have:p=q:=by omega
    rw[this,f2]at e2;exact(V4 _ (Xl h hb) _ (Xl h ha) e2).symm
   ·intro e;rw[e]
  rw[ma,ml,aG,ma];simp
 unfold K3 VI;rw[hl,aO,aN];constructor
 ·rintro⟨h1,h2,h3,h4⟩
  exact⟨h1,h2,⟨by omega,(aH i j (by omega) h2).1 h3⟩,(can i j (by omega) h2).1 h4⟩
 ·rintro⟨h1,h2,⟨-,h3⟩,h4⟩
  exact⟨h1,h2,(aH i j (by omega) h2).2 h3,(can i j (by omega) h2).2 h4⟩
structure FrG(M:yO)(G:Nat->GR):Prop where
 gr:∀i,i<M.rules.length->eI (xP M.aa (uW M i).head) (uW M i) (G i)
 calm:jN (yM M G)
 mod:BN (yM M G)
 gm:∀x∈yM M G,bG x
theorem Gx{low:List Nat}{p:xJ}(h:mJ low p)(m:Bool):0<=(rR m p).num/\(rR m p).num<=9999:=by
 unfold rR;rcases h with ⟨h0,h1,h2,h3⟩|⟨h0,h1,h2⟩|⟨h0,h1,h2,h3⟩|⟨h1,h2,d,hd,h3⟩
 ·rw[tj (by rw[h0];decide),i6,i6];exact h1
 ·rw[tj (by rw[h0];decide),tr h1.1];exact⟨bp _,show (0:Int)<=9999 by decide⟩
 ·rw[tr h0];exact⟨h1.1,by show p.n<=9999;omega⟩
 ·by_cases h0:p.times=true
  ·rw[tr h0];exact⟨h1.1,by show p.n<=9999;omega⟩
  ·rw[tj h0,i6,u'];exact⟨bp _,show (0:Int)<=9999 by decide⟩
theorem RD{low:List Nat}{ps:List xJ}(h:∀p∈ps,mJ low p):∀q∈wF ps,0<=q.num/\q.num<=9999:=λq hq=>by
 cases ps with
 | nil=>cases hq
 | cons p r =>
   rcases pi.1 hq with rfl|hq
   ·exact Gx (h p (by simp)) _
   ·obtain⟨p',hp',rfl⟩:=pd.1 hq
    exact Gx (h p' (by simp[hp'])) _
theorem RP(h:yR M)(hG:∀i,i<M.rules.length->eI (xP M.aa (uW M i).head) (uW M i) (G i)):∀x∈yM M G,bG x:=λx hx=>by
 unfold yM at hx;rcases pj.1 hx with hx|hx
 ·rcases pj.1 hx with hx|hx
  ·obtain⟨i,-,rfl⟩:=pd.1 hx
   unfold rQ;by_cases h3:i<3
   ·have hn:=h.au i h3
    rw[tr h3];exact⟨.inl rfl,hn.1,by show M.lo i<=9999;omega,by show 0<=M.hi i;omega,by show M.hi i<=9999;omega,λa ha=>x' ha (by simp),by simp,Yq,λq=>M' (show (1:Int)=3 from q)⟩
   ·rw[tj h3]
    exact⟨.inr (.inl rfl),bp _,show (0:Int)<=9999 by decide,bp _,show (0:Int)<=9999 by decide,λa ha=>x' ha (by simp),by simp,Yq,λq=>M' (show (2:Int)=3 from q)⟩
  ·obtain⟨i,hi,rfl⟩:=pd.1 hx
   have aJ:=me.1 hi;have hr:=h.rules _ (fV aJ);have hg:=hG i aJ;obtain⟨t,l,k,-,hD⟩:=hg.den;have hb:=ZL hD;have hl:(wF (uW M i).parts).length=(uW M i).parts.length:=Bn _;exact⟨.inr (.inr (.inl rfl)),bp _,show (0:Int)<=9999 by decide,bp _,show (0:Int)<=9999 by decide,λa ha=>RD hr.parts.2.2 _ (by unfold aY;rw[mq,pm ha];exact dq ha),by show (wF (uW M i).parts).length<=10000;have:=hr.parts.2.1;omega,hg.gm,λ_=>⟨by show 0<(wF (uW M i).parts).length;have:=hr.parts.1;omega,hb.1,hb.2⟩⟩
 ·obtain⟨p,-,rfl⟩:=pd.1 hx
  exact⟨.inr (.inr (.inr rfl)),bp _,show (0:Int)<=9999 by decide,bp _,show (0:Int)<=9999 by decide,λa ha=>x' ha (by simp[dY]),by simp[dY],Yq,λq=>M' (show (4:Int)=3 from q)⟩
theorem MH(hG:∀i,i<M.rules.length->eI (xP M.aa (uW M i).head) (uW M i) (G i)):∀x∈yM M G,x.nd.length<=10000:=λx hx=>by
 unfold yM at hx;rcases pj.1 hx with hx|hx
 ·rcases pj.1 hx with hx|hx
  ·obtain⟨i,-,rfl⟩:=pd.1 hx
   unfold rQ;split <;> simp
  ·obtain⟨i,hi,rfl⟩:=pd.1 hx
   have:=(hG i (me.1 hi)).cnt;show (G i).nd.length<=10000;omega
 ·obtain⟨p,-,rfl⟩:=pd.1 hx
  simp[dY]
end Go.Proofs.YtnbpdffdnphbeabGreatDoor
