import Derived.Test.YtnbpdffdnphbeabGreatDoorPFtxt
import Derived.Test.YtnbpdffdnphbeabGreatDoorDAsk
namespace Go.Proofs.YtnbpdffdnphbeabGreatDoor
variable{i a h:Nat}{t:zR}
structure FV where
 inn:Nat->Int
 has:Nat->Bool
 val:Nat->Int
variable{v:FV}
def Zy(x:Int)(k:Nat)(y:Int):Bool:=if k=0 then decide (x<y) else if k=1 then decide (x<=y) else if k=2 then decide (x=y) else if k=3 then decide (x≠y) else if k=4 then decide (y<=x) else decide (y<x)
def XK(v:FV)(t:zR):Bool:=if t.kind=0 then true else if t.kind=1 then decide (v.inn t.x.toNat=1) else if t.kind=2 then v.has t.x.toNat else if t.kind=3 then Zy (v.inn t.x.toNat) t.mark.toNat t.n else Zy (v.inn t.x.toNat) t.mark.toNat (v.inn t.y.toNat)
def mJ(v:FV)(t:zR):Bool:=XK v t != t.not
def K1(v:FV):Bool->Bool->List zR->Bool
 | s,r,[]=>s || r
 | s,r,t::l=>if t.or=true then K1 v (s || r) (mJ v t) l else K1 v s (r&&mJ v t) l
def nU(v:FV)(ps:List yU):Bool:=ps.all fun p=>decide (p.head<0) || v.has p.head.toNat
def gI(v:FV)(wh:Bool):List zR->Bool
 | []=>true != wh
 | t::l=>K1 v false (mJ v t) l != wh
def bJ(v:FV)(r:xP):Bool:=nU v r.parts&&gI v r.whole r.tests
structure lW(M:yC)(v:FV):Prop where
 num:∀i,i<3->M.lo i<=v.inn i/\v.inn i<=M.hi i
 flag:∀i,3<=i->i<5->v.inn i=0\/v.inn i=1
def nX(M:yC):List Bool:=(List.range 64).map fun q=>M.over (q/8) (q%8)
theorem uy(M:yC):(nX M).length=64:=by unfold nX;simp
theorem zDP(M:yC){b:Nat}(ha:a<8)(hb:b<8):gA (nX M) a b=M.over a b:=by
 unfold gA nX;have hq:a*8+b<64:=by omega
 simp[List.getD,hq,show (a*8+b)/8=a by omega,show (a*8+b)%8=b by omega]
theorem aU{hs:List Bool}{a:Int}(h0:0<=a)(h1:a.toNat<hs.length):kS hs a=hs.getD a.toNat false:=by
 unfold kS;rw[tu h0,tu (show a<(hs.length:Int) by omega)];rfl
def evA(E:Qe):GA:=⟨Bool,fun t=>JB E [] (mI t),fun x y=>x&&y,fun x y=>x || y,fun _ x => !x,fun N i _ b=>0<=i/\i.toNat<N.length/\(Qp E N).getD i.toNat false=b⟩
theorem zER(E:Qe)(N M:List zT)(h:a<N.length):(Qp E (N++M)).getD a false=(Qp E N).getD a false:=by
 have:=jw E (N++M) N.length a h (by rw[tm];omega);rw[List.take_left' rfl]at this;exact this.symm
theorem Yv(E:Qe)(N:List zT)(x:zT):(Qp E (N++[x])).getD N.length false=JB E (Qp E N) x:=by
 rw[zEQ E (N++[x]) N.length (by simp),List.take_left' rfl];have:=zDZ N x [];rw[mt]at this;rw[this]
theorem qj(E:Qe)(hs:List Bool)(t:zR):JB E hs (mI t)=JB E [] (mI t):=by
 have hk:=YF t;have h1:¬(mI t).kind=1:=by omega
 have h2:¬(mI t).kind=2:=by omega
 have h3:¬(mI t).kind=3:=by omega
 unfold JB;simp only[tb h1,tb h2,tb h3]
theorem zJ2(E:Qe)(low:List Nat):(evA E).Ok low where
 ext:=fun N M i k b ⟨h0,h1,h2⟩=>⟨h0,by rw[tm];omega,by rw[zER E N M h1];exact h2⟩
 core:=fun N t _=>⟨by omega,by rw[tm];simp,by rw[Int.toNat_natCast,Yv,qj];rfl⟩
 and:=fun N l kl (x:Bool) r kr (y:Bool) ⟨a0,a1,a2⟩ ⟨b0,b1,b2⟩ _ _=>by
  refine⟨by omega,by rw[tm];simp,?_⟩;rw[Int.toNat_natCast,Yv];show (kS (Qp E N) l&&kS (Qp E N) r)=(x&&y);rw[aU a0 (by rw[fA];exact a1),aU b0 (by rw[fA];exact b1),a2,b2]
 or:=fun N l kl (x:Bool) r kr (y:Bool) ⟨a0,a1,a2⟩ ⟨b0,b1,b2⟩=>by
  refine⟨by omega,by rw[tm];simp,?_⟩;rw[Int.toNat_natCast,Yv];show (kS (Qp E N) l || kS (Qp E N) r)=(x || y);rw[aU a0 (by rw[fA];exact a1),aU b0 (by rw[fA];exact b1),a2,b2]
 not:=fun N l kl (x:Bool) ⟨a0,a1,a2⟩=>by
  refine⟨by omega,by rw[tm];simp,?_⟩;rw[Int.toNat_natCast,Yv];show (!kS (Qp E N) l)=(!x);rw[aU a0 (by rw[fA];exact a1),a2]
structure Ku(heads:List Nat)(v:FV)(E:Qe):Prop where
 inp:∀i,i<5->E.inp (yD i)=v.inn i
 has:∀d∈heads,E.has (xG 99 d)=v.has d
def GD(E:Qe)(x:GX):Bool:=x (evA E)
theorem zGM{k:Nat}(hk:k<6)(x y:Int):zB4 x (sE k) y=Zy x k y:=by
 have h:k=0\/k=1\/k=2\/k=3\/k=4\/k=5:=by omega
 unfold zB4 Zy;rcases Int.lt_trichotomy x y with h1|h1|h1
 ·rw[tl h1]
  rcases h with rfl|rfl|rfl|rfl|rfl|rfl
  ·rw[tl rfl,tu h1];decide
  ·rw[tb (by decide),tl rfl,tu (show x<=y by omega)];decide
  ·rw[tb (by decide),tb (by decide),tl rfl,ty (show ¬x=y by omega)];decide
  ·rw[tb (by decide),tb (by decide),tb (by decide),tl rfl,tu (show x≠y by omega)];decide
  ·rw[tb (by decide),tb (by decide),tb (by decide),tb (by decide),tl rfl,ty (show ¬y<=x by omega)];decide
  ·rw[tb (by decide),tb (by decide),tb (by decide),tb (by decide),tb (by decide),ty (show ¬y<x by omega)];decide
 ·rw[tb (by omega),tl h1]
  rcases h with rfl|rfl|rfl|rfl|rfl|rfl
  ·rw[tl rfl,ty (show ¬x<y by omega)];decide
  ·rw[tb (by decide),tl rfl,tu (show x<=y by omega)];decide
  ·rw[tb (by decide),tb (by decide),tl rfl,tu h1];decide
  ·rw[tb (by decide),tb (by decide),tb (by decide),tl rfl,ty (show ¬x≠y by omega)];decide
  ·rw[tb (by decide),tb (by decide),tb (by decide),tb (by decide),tl rfl,tu (show y<=x by omega)];decide
  ·rw[tb (by decide),tb (by decide),tb (by decide),tb (by decide),tb (by decide),ty (show ¬y<x by omega)];decide
 ·rw[tb (by omega),tb (by omega)]
  rcases h with rfl|rfl|rfl|rfl|rfl|rfl
  ·rw[tl rfl,ty (show ¬x<y by omega)];decide
  ·rw[tb (by decide),tl rfl,ty (show ¬x<=y by omega)];decide
  ·rw[tb (by decide),tb (by decide),tl rfl,ty (show ¬x=y by omega)];decide
  ·rw[tb (by decide),tb (by decide),tb (by decide),tl rfl,tu (show x≠y by omega)];decide
  ·rw[tb (by decide),tb (by decide),tb (by decide),tb (by decide),tl rfl,tu (show y<=x by omega)];decide
  ·rw[tb (by decide),tb (by decide),tb (by decide),tb (by decide),tb (by decide),tu (show y<x by omega)];decide
theorem zFD{heads:List Nat}{E:Qe}(hE:Ku heads v E)(ht:xL (xC heads h) t):JB E [] (mI t)=XK v t:=by
 unfold mI XK;rcases ht with h0|⟨h0,x1,x2⟩|⟨h0,d,hd,hx⟩|⟨h0,⟨x1,x2⟩,⟨y1,y2⟩,⟨m1,m2⟩,n1,n2⟩
 ·rw[tl h0,tl h0];rfl
 ·rw[tb (show ¬t.kind=0 by omega),tl h0,tb (show ¬t.kind=0 by omega),tl h0,<-hE.inp t.x.toNat (by omega)];rfl
 ·rw[tb (show ¬t.kind=0 by omega),tb (show ¬t.kind=1 by omega),tl h0,tb (show ¬t.kind=0 by omega),tb (show ¬t.kind=1 by omega),tl h0,hx,Int.toNat_natCast]
  have hm:d∈heads:=by unfold xC at hd;rw[mj]at hd;exact ce hd.2
  rw[<-hE.has d hm];rfl
 ·have e1:=hE.inp t.x.toNat (by omega)
  have e2:=hE.inp t.y.toNat (by omega);rcases h0 with h0|h0
  ·rw[tb (show ¬t.kind=0 by omega),tb (show ¬t.kind=1 by omega),tb (show ¬t.kind=2 by omega),tl h0,tb (show ¬t.kind=0 by omega),tb (show ¬t.kind=1 by omega),tb (show ¬t.kind=2 by omega),tl h0,<-zGM (by omega),<-e1];rfl
  ·rw[tb (show ¬t.kind=0 by omega),tb (show ¬t.kind=1 by omega),tb (show ¬t.kind=2 by omega),tb (show ¬t.kind=3 by omega),tb (show ¬t.kind=0 by omega),tb (show ¬t.kind=1 by omega),tb (show ¬t.kind=2 by omega),tb (show ¬t.kind=3 by omega),<-zGM (by omega),<-e1,<-e2]
   show zB4 (E.inp (yD t.x.toNat)) (sE t.mark.toNat) (if yD t.y.toNat=[] then 0 else E.inp (yD t.y.toNat))=_;rw[tb (by have:=Yu t.y.toNat;intro e;rw[e]at this;cases this)]
theorem yx{heads:List Nat}{E:Qe}(hE:Ku heads v E)(ht:xL (xC heads h) t):GD E (tM t)=mJ v t:=by
 have hc:=zFD hE ht;unfold GD tM mJ;rw[<-hc];cases t.not
 ·show JB E [] (mI t)=(JB E [] (mI t) != false)
  cases JB E [] (mI t) <;> rfl
 ·show (!JB E [] (mI t))=(JB E [] (mI t) != true)
  cases JB E [] (mI t) <;> rfl
def zKM(E:Qe):Option GX->Bool
 | none=>false
 | some a=>GD E a
theorem Dy(E:Qe)(acc:Option GX)(c:GX):GD E (QP acc c)=(zKM E acc || GD E c):=by
 cases acc with
 | none=>rfl
 | some a=>rfl
theorem zKC{heads:List Nat}{E:Qe}(hE:Ku heads v E)(l:List zR):∀(acc:Option GX) (c:GX),(∀t∈l,xL (xC heads h) t)->GD E (QZ acc c l)=K1 v (zKM E acc) (GD E c) l:=by
 induction l with
 | nil=>intro acc c _;rw[zEX,Dy];rfl
 | cons t r ih =>
   intro acc c hl;have ht:=yx hE (hl t (by simp));have hr:∀q∈r,xL (xC heads h) q:=fun q hq=>hl q (mu _ hq);rw[zA5,K1];cases ho:t.or
   ·rw[tb (by decide),tb (by decide),ih _ _ hr,<-ht];rfl
   ·rw[tl rfl,tl rfl,ih _ _ hr,<-ht,<-Dy];rfl
theorem zIM{heads:List Nat}{E:Qe}(hE:Ku heads v E)(wh:Bool){l:List zR}(hl:∀q∈t::l,xL (xC heads h) q):GD E (zA3 wh t l)=gI v wh (t::l):=by
 have e:=zKC hE l none (tM t) (fun q hq=>hl q (mu _ hq));rw[yx hE (hl t (by simp))]at e;show GD E (zA3 wh t l)=(K1 v false (mJ v t) l != wh);rw[<-show GD E (QZ none (tM t) l)=K1 v false (mJ v t) l from e];unfold zA3;cases wh
 ·rw[tb (by decide)]
  cases GD E (QZ none (tM t) l) <;> rfl
 ·rw[tl rfl]
  show (!GD E (QZ none (tM t) l))=_;cases GD E (QZ none (tM t) l) <;> rfl
theorem zA1{M:yC}{g:GR}(hr:dI M.heads (vO M i))(hg:sT (xC M.heads (vO M i).head) (vO M i) g){E:Qe}(hE:Ku M.heads v E):kS (Qp E g.nd) g.root=gI v (vO M i).whole (vO M i).tests:=by
 obtain⟨t,l,k,htl,hD⟩:=hg.den;obtain⟨h0,h1,h2⟩:=hD (evA E) (zJ2 E _);have hT:=hr.tests.2.2;rw[htl]at hT ⊢;rw[aU h0 (by rw[fA];exact h1),h2];exact zIM hE _ hT
theorem zDV{M:yC}{r:xP}(hr:dI M.heads r){ins cs:List Bs}{s:yX}(zL9:∀i,i<3->0<=zH ins (yD i))(hco:∀d,d<4->zH ins (xG 99 d)<0)(hE:Ku M.heads v (Zv ins cs s)):jB s ((rB r.parts).map (xT ins cs))=nU v r.parts:=by
 have one:∀p m,jR (xC M.heads r.head) p->(!(decide ((xT ins cs (bH m p)).kind=3) && !kS s.has (xT ins cs (bH m p)).place))=(decide (p.head<0) || v.has p.head.toNat):=fun p m hp=>by
  have h4:=hr.head;obtain⟨mi,ti,n,nu,hd⟩:=p;rcases hp with ⟨h0,h1,h2,h3⟩|⟨h0,h1,h2⟩|⟨h0,h1,h2,h3⟩|⟨h1,h2,d,hd4,h3⟩
  ·simp only at h0 h1 h2 h3
   subst h0 h2 h3;rfl
  ·simp only at h0 h1 h2
   subst h0 h2;have e2:bH m ⟨mi,false,n,nu,-1⟩=⟨m,false,0,yD nu.toNat⟩:=by simp[bH,h1.1]
   have hk:(xT ins cs ⟨m,false,0,yD nu.toNat⟩).kind=2:=by
    have:=zL9 nu.toNat (by omega);have zL4:¬yD nu.toNat=[]:=by intro e;have:=Yu nu.toNat;rw[e]at this;cases this
    unfold xT JD;simp only;rw[tb zL4,tb (by omega)]
   rw[e2,hk];rfl
  ·simp only at h0 h1 h2 h3
   subst h0 h3;have e2:bH m ⟨mi,true,n,nu,-1⟩=⟨m,true,n,yD nu.toNat⟩:=by simp[bH,h2.1]
   have hk:(xT ins cs ⟨m,true,n,yD nu.toNat⟩).kind=2:=by
    have:=zL9 nu.toNat (by omega);have zL4:¬yD nu.toNat=[]:=by intro e;have:=Yu nu.toNat;rw[e]at this;cases this
    unfold xT JD;simp only;rw[tb zL4,tb (by omega)]
   rw[e2,hk];rfl
  ·simp only at h1 h2 h3
   subst h2 h3;obtain⟨hm,zKZ⟩:=Xm hd4;have hh:=hE.has d hm;have hc:=hco d (by omega)
   have key:∀(st:Bool) (z:Int),(!(decide ((xT ins cs ⟨m,st,z,xG 99 d⟩).kind=3) && !kS s.has (xT ins cs ⟨m,st,z,xG 99 d⟩).place))=v.has d:=fun st z=>by
    have zL4:¬xG 99 d=[]:=by unfold xG;simp
    have k1:(xT ins cs ⟨m,st,z,xG 99 d⟩).kind=3:=by unfold xT JD;simp only;rw[tb zL4,tl hc]
    have k2:(xT ins cs ⟨m,st,z,xG 99 d⟩).place=zH cs (xG 99 d):=by unfold xT zr;simp only;rw[tb zL4,tl hc]
    rw[k1,k2,<-hh];show (!(true && !kS s.has (zH cs (xG 99 d))))=kS s.has (zH cs (xG 99 d));cases kS s.has (zH cs (xG 99 d)) <;> rfl
   have e3:(decide ((d:Int)<0) || v.has (d:Int).toNat)=v.has d:=by rw[ty (by omega),Int.toNat_natCast];rfl
   rw[e3];cases ti
   ·have e2:bH m ⟨mi,false,n,-1,d⟩=⟨m,false,0,xG 99 d⟩:=by simp[bH]
    rw[e2];exact key _ _
   ·have e2:bH m ⟨mi,true,n,-1,d⟩=⟨m,true,n,xG 99 d⟩:=by simp[bH]
    rw[e2];exact key _ _
 unfold jB nU
 cases hps:r.parts with
 | nil=>rfl
 | cons p rr =>
   have zLC:=hr.parts.2.2;rw[hps]at zLC;rw[show rB (p::rr)=bH false p::rr.map fun q=>bH q.minus q from rfl,da,fg,fg,one p false (zLC p (by simp)),List.map_map,List.all_map];congr 1
   have h2:∀q∈rr,jR (xC M.heads r.head) q:=fun q hq=>zLC q (mu _ hq);clear zLC hps
   induction rr with
   | nil=>rfl
   | cons q rr ih =>
     rw[fg,fg,ih fun x hx=>h2 x (mu _ hx)];congr 1
     exact one q q.minus (h2 q (by simp))
theorem Un{M:yC}(h:yI M)(hi:i<M.rules.length){g:GR}(hg:sT (xC M.heads (vO M i).head) (vO M i) g){ins cs:List Bs}{s:yX}(zL9:∀i,i<3->0<=zH ins (yD i))(hco:∀d,d<4->zH ins (xG 99 d)<0)(hE:Ku M.heads v (Zv ins cs s)):qJ (qG ins cs (nT (vO M i) i g)) s=bJ v (vO M i):=by
 have hr:=h.rules _ (lI hi);unfold qJ bJ;rw[<-zDV hr zL9 hco hE,<-zA1 hr hg hE];show (jB s ((rB (vO M i).parts).map (xT ins cs))&&kS (dB s (g.nd.map (pY ins cs)) []) g.root)=_;rw[zII];rfl
variable {M:yC} {G:Nat->GR}
theorem JW(M:yC)(G:Nat->GR):fQ (yA M G)=(List.range M.rules.length).map fun i=>nT (vO M i) i (G i):=by
 unfold fQ yA;rw[dq,dq]
 have h1:((List.range 5).map (oB M)).filter (fun x=>decide (x.kind=3))=[]:=List.filter_eq_nil_iff.2 fun x hx=>by
  obtain⟨i,-,rfl⟩:=p9.1 hx;rw[ty (jN M i).1];decide
 have h2:((List.range M.rules.length).map fun i=>nT (vO M i) i (G i)).filter (fun x=>decide (x.kind=3))=(List.range M.rules.length).map fun i=>nT (vO M i) i (G i):=List.filter_eq_self.2 fun x hx=>by
  obtain⟨i,-,rfl⟩:=p9.1 hx;rfl
 have h3:((Qm M).map cT).filter (fun x=>decide (x.kind=3))=[]:=List.filter_eq_nil_iff.2 fun x hx=>by
  obtain⟨i,-,rfl⟩:=p9.1 hx;exact(show ¬(decide ((4:Int)=3))=true by decide)
 rw[h1,h2,h3];simp
theorem JX(M:yC)(G:Nat->GR):zX (yA M G)=(List.range 5).map fun i=>mB (oB M i):=by
 unfold zX;rw[Xw,db];unfold yA;rw[dq,dq]
 have h1:((List.range 5).map (oB M)).filter (fun x=>decide (x.kind=1\/x.kind=2))=(List.range 5).map (oB M):=List.filter_eq_self.2 fun x hx=>by
  obtain⟨i,-,rfl⟩:=p9.1 hx;rw[gB];split <;> decide
 have h2:((List.range M.rules.length).map fun i=>nT (vO M i) i (G i)).filter (fun x=>decide (x.kind=1\/x.kind=2))=[]:=List.filter_eq_nil_iff.2 fun x hx=>by
  obtain⟨i,-,rfl⟩:=p9.1 hx;exact(show ¬(decide ((3:Int)=1\/(3:Int)=2))=true by decide)
 have h3:((Qm M).map cT).filter (fun x=>decide (x.kind=1\/x.kind=2))=[]:=List.filter_eq_nil_iff.2 fun x hx=>by
  obtain⟨i,-,rfl⟩:=p9.1 hx;exact(show ¬(decide ((4:Int)=1\/(4:Int)=2))=true by decide)
 rw[h1,h2,h3];simp
def oT:List Bs:=(List.range 5).map yD
theorem Yz(M:yC)(G:Nat->GR):vX (yA M G)=oT:=by
 unfold vX oT;rw[JX,List.map_map];refine List.map_congr_left fun i _=>?_;show (mB (oB M i)).name=_;rw[Xz,oU]
theorem Xu:∀i,i<5->zH oT (yD i)=(i:Int):=by decide
theorem jg:∀d,d<4->zH oT (xG 99 d) = -1:=by decide
theorem Kc:∀i,i<4->∀j,j<4->xG 99 i=xG 99 j->i=j:=by decide
theorem QX{a:List zE}(h:∀x∈a,x.kind≠3):∀acc,uM a acc=acc:=by
 induction a with
 | nil=>intro acc;rfl
 | cons x r ih=>intro acc;rw[uM,tb (fun q=>h x (by simp) q.1)];exact ih (fun y hy=>h y (mu _ hy)) acc
theorem Gw(M:yC)(G:Nat->GR)(L:List Nat):∀acc:List Nat,(∀i∈L,(vO M i).head<4)->(∀d∈acc,d<4)->uM (L.map fun i=>nT (vO M i) i (G i)) (acc.map (xG 99))=((L.map fun i=>(vO M i).head).foldl Yg acc).map (xG 99):=by
 induction L with
 | nil=>intro acc _ _;rfl
 | cons i r ih =>
   intro acc hL ha;have hi:=hL i (by simp);rw[da,da,uM,List.foldl_cons]
   have hf:zH (acc.map (xG 99)) (xG 99 (vO M i).head)<0 ↔ (vO M i).head ∉ acc:=by
    unfold zH;rw[gL];constructor
    ·intro h hm;exact h (p9.2 ⟨_,hm,rfl⟩)
    ·intro h hm
     obtain⟨d,hd,e⟩:=p9.1 hm;exact h (Kc d (ha d hd) _ hi e ▸ hd)
   have e:(if (nT (vO M i) i (G i)).kind=3/\zH (acc.map (xG 99)) (nT (vO M i) i (G i)).conc<0 then acc.map (xG 99)++[(nT (vO M i) i (G i)).conc] else acc.map (xG 99))=(Yg acc (vO M i).head).map (xG 99):=by
    unfold Yg;by_cases hm:(vO M i).head∈acc
    ·rw[tl hm,tb (fun q=>hf.1 q.2 hm)]
    ·rw[tb hm,tl ⟨rfl,hf.2 hm⟩,bi];rfl
   rw[e];refine ih _ (fun j hj=>hL j (mu _ hj)) fun d hd=>?_;rcases Uu.1 hd with h1|h1
   ·exact ha d h1
   ·omega
theorem KQ(M:yC):((List.range M.rules.length).map fun i=>(vO M i).head)=M.rules.map xP.head:=by
 refine List.ext_getElem (by simp) fun i h1 h2=>?_;simp at h1;simp[vO,List.getD,h1]
theorem pI(h:yI M)(G:Nat->GR):zO (yA M G)=M.heads.map (xG 99):=by
 unfold zO yA;rw[X1,X1,QX (a:=(List.range 5).map (oB M)) (fun x hx=>by obtain⟨i,-,rfl⟩:=p9.1 hx;exact(jN M i).1)];have:=Gw M G (List.range M.rules.length) [] (fun i hi=>Yl h (py.1 hi)) (fun d hd=>by cases hd);rw[List.map_nil]at this;rw[this,QX (fun x hx=>by obtain⟨i,-,rfl⟩:=p9.1 hx;exact(show ¬(4:Int)=3 by decide)),KQ,h.heads];rfl
theorem zA7(M:yC)(G:Nat->GR):vD (yA M G)=(List.range M.rules.length).map (xG 114):=by
 rw[Xq,JW,List.map_map];rfl
theorem iO:∀n,n<9->∀i,i<n->zH ((List.range n).map (xG 114)) (xG 114 i)=(i:Int):=by decide
theorem zDO(h:yI M){b:Nat}(ho:M.over a b=true):(a,b)∈Qm M:=by
 have:=h.over a b ho;unfold Qm;refine bj.2 ⟨a,py.2 (by omega),bj.2 ⟨b,py.2 (by omega),?_⟩⟩;rw[tl ho];simp
theorem Jb(h:yI M)(G:Nat->GR):uW (vD (yA M G)) (yA M G) gZ=nX M:=by
 have h8:=h.few;rw[zA7]
 have key:∀a b,a<8->b<8->gA (uW ((List.range M.rules.length).map (xG 114)) (yA M G) gZ) a b=gA (nX M) a b:=fun a b ha hb=>by
  rw[YW _ (yA M G) ha hb gZ xK,zA6,bf,zDP M ha hb];cases ho:M.over a b
  ·rw[dy]
   intro x hx hp;unfold zFM at hp;simp only[pq,pw]at hp;rcases Yx hx with ⟨k,hk,rfl⟩|⟨j,hj,rfl⟩|⟨p,hp',rfl⟩
   ·exact absurd hp.1 (jN M k).2
   ·exact absurd hp.1 (show ¬(3:Int)=4 by decide)
   ·obtain⟨p1,p2,p3⟩:=J9 h hp'
    obtain⟨-,ea,eb⟩:=hp;have ea:zH ((List.range M.rules.length).map (xG 114)) (xG 114 p.1)=(a:Int):=ea;have eb:zH ((List.range M.rules.length).map (xG 114)) (xG 114 p.2)=(b:Int):=eb;rw[iO _ (by omega) p.1 (by omega)]at ea;rw[iO _ (by omega) p.2 p2]at eb;rw[show a=p.1 by omega,show b=p.2 by omega,p3]at ho;cases ho
  ·rw[me]
   have hb2:=h.over a b ho;refine⟨cT (a,b),?_,?_⟩
   ·unfold yA
    exact List.mem_append_right _ (p9.2 ⟨_,zDO h ho,rfl⟩)
   ·unfold zFM cT
    simp only;rw[iO _ (by omega) a (by omega),iO _ (by omega) b hb2.2.1];simp
 have hl:(uW ((List.range M.rules.length).map (xG 114)) (yA M G) gZ).length=64:=by rw[lT];exact xK
 have hl2:=uy M;refine List.ext_getElem (by omega) fun q h1 h2=>?_;have:=key (q/8) (q%8) (by omega) (by omega);unfold gA at this;rw[show q/8*8+q%8=q by omega]at this;simpa[List.getD,h1,h2] using this
def zD2(M:yC)(v:FV):yX:=⟨(List.range 5).map v.inn,M.heads.map v.has,[]⟩
def zKF(M:yC)(y:yX):FV:=⟨fun i=>y.inputs.getD i 0,fun d=>kS y.has (zH (M.heads.map (xG 99)) (xG 99 d)),fun _=>0⟩
theorem VV(cs:List Bs)(y:yX)(hl:y.inputs.length=5)(hi:i<5):(Zv oT cs y).inp (yD i)=y.inputs.getD i 0:=by
 show qI y.inputs (zH oT (yD i))=_;rw[Xu i hi];unfold qI;rw[tl ⟨by omega,by omega⟩,Int.toNat_natCast]
theorem zJ5(M:yC)(y:yX)(hl:y.inputs.length=5):Ku M.heads (zKF M y) (Zv oT (M.heads.map (xG 99)) y):=⟨fun _ hi=>VV _ y hl hi,fun _ _=>rfl⟩
theorem sL{l:List Bs}{nm:Bs}(h:nm∈l):∃a:Nat,a<l.length/\zH l nm=(a:Int)/\l.getD a []=nm:=by
 have h1:¬zH l nm<0:=fun q=>(gL nm l 0).1 q h;have h2:=jP l nm;refine⟨(zH l nm).toNat,by omega,by omega,cG (by omega)⟩
theorem zJ4(h:yI M)(v:FV):Ku M.heads v (Zv oT (M.heads.map (xG 99)) (zD2 M v)):=by
 refine⟨fun i hi=>?_,fun d hd=>?_⟩
 ·rw[VV _ (zD2 M v) (by simp[zD2]) hi]
  show ((List.range 5).map v.inn).getD i 0=_;simp[List.getD,hi]
 ·show kS (M.heads.map v.has) (zH (M.heads.map (xG 99)) (xG 99 d))=_
  obtain⟨a,ha,e1,e2⟩:=sL (l:=M.heads.map (xG 99)) (p9.2 ⟨d,hd,rfl⟩);rw[pi]at ha
  have h4:∀x∈M.heads,x<4:=fun x hx=>by
   rw[h.heads]at hx;rcases(cF (M.rules.map xP.head) [] (x:=x)).1 hx with h1|h1
   ·cases h1
   ·obtain⟨r,hr,rfl⟩:=p9.1 h1;exact(h.rules r hr).head
  have e3:M.heads[a]=d:=by
   rw[pd,List.getElem?_map,pb ha]at e2;exact Kc _ (h4 _ (dm ha)) d (h4 d hd) e2
  rw[e1,aU (by omega) (by rw[pi];omega),Int.toNat_natCast];simp[List.getD,ha,e3]
theorem Zn(hi:i<5):kT (zX (yA M G)) i=mB (oB M i):=by
 unfold kT;rw[JX];simp[List.getD,hi]
theorem sH(M:yC)(G:Nat->GR):(zX (yA M G)).length=5:=by rw[JX];simp
theorem fW(h:i<3):mB (oB M i)=⟨yD i,false,M.lo i,M.hi i⟩:=by unfold mB oB;rw[tl h];rfl
theorem aX(h:¬i<3):mB (oB M i)=⟨yD i,true,0,0⟩:=by unfold mB oB;rw[tb h];rfl
theorem zDD(hv:lW M v):ZE (zX (yA M G)) M.heads.length (zD2 M v):=by
 have hl:=sH M G;refine⟨by rw[hl];simp[zD2],by simp[zD2],fun i hi hn=>?_,fun i hi hn=>?_⟩
 ·rw[hl]at hi
  have e:(zD2 M v).inputs.getD i 0=v.inn i:=by show ((List.range 5).map v.inn).getD i 0=_;simp[List.getD,hi]
  unfold xW at hn;rw[Zn hi]at hn ⊢;by_cases h3:i<3
  ·rw[fW h3,e];exact hv.num i h3
  ·rw[aX h3]at hn;cases hn
 ·rw[hl]at hi
  have e:(zD2 M v).inputs.getD i 0=v.inn i:=by show ((List.range 5).map v.inn).getD i 0=_;simp[List.getD,hi]
  unfold xW at hn;rw[Zn hi]at hn;by_cases h3:i<3
  ·rw[fW h3]at hn;cases hn
  ·rw[e];exact hv.flag i (by omega) hi
theorem zDE{y:yX}(hy:ZE (zX (yA M G)) M.heads.length y):lW M (zKF M y):=by
 have hl:=sH M G;refine⟨fun i h3=>?_,fun i h3 h5=>?_⟩
 ·have:=hy.num i (by omega) (by unfold xW;rw[Zn (by omega),fW h3];rfl)
  rw[Zn (by omega),fW h3]at this;exact this
 ·exact hy.flag i (by omega) (by unfold xW;rw[Zn h5,aX (by omega)];rfl)
def Kx(M:yC)(i j:Nat):Prop:=i≠j/\(vO M i).head=(vO M j).head/\gA (yB (nX M)) i j=false/\gA (yB (nX M)) j i=false
theorem VD(h:yI M)(hi:i<M.rules.length):(vO M i).head∈M.heads:=by
 rw[h.heads];exact(cF (M.rules.map xP.head) []).2 (.inr (p9.2 ⟨vO M i,lI hi,rfl⟩))
theorem zA9(h:yI M)(hG:∀i,i<M.rules.length->sT (xC M.heads (vO M i).head) (vO M i) (G i)){rs:List MX}(hr:rs.map Prod.fst=uQ ((zX (yA M G)).map zQ.name) ((yY (yA M G)).map Prod.fst) (yA M G))(i j:Nat) :
 U0 (zX (yA M G)) (yY (yA M G)).length rs (X4 (yA M G)) i j ↔ i<j/\j<M.rules.length/\Kx M i j/\∃v,lW M v/\bJ v (vO M i)=true/\bJ v (vO M j)=true:=by
 have h8:=h.few;have hc:vL (yA M G):=zGN (by rw[ZS h hG]);obtain⟨hl,hat⟩:=qo hc hr;rw[JW,pi,List.length_range]at hl hat
 have hat2:∀k,k<M.rules.length->(kP rs k).1=qG oT (M.heads.map (xG 99)) (nT (vO M k) k (G k)):=fun k hk=>by
  rw[hat k hk,Yz,pI h];congr 1
  simp[List.getD,hk]
 have hgr:X4 (yA M G)=yB (nX M):=by unfold X4;rw[Jb h]
 have hll:(yY (yA M G)).length=M.heads.length:=by rw[Xk hc,pI h,pi]
 have zL9:∀k,k<3->0<=zH oT (yD k):=fun k hk=>by rw[Xu k (by omega)];omega
 have hco:∀d,d<4->zH oT (xG 99 d)<0:=fun d hd=>by rw[jg d hd];decide
 have can:∀a b,a<M.rules.length->b<M.rules.length->(zBY (zX (yA M G)) M.heads.length (kP rs a).1 (kP rs b).1 ↔ ∃v,lW M v/\bJ v (vO M a)=true/\bJ v (vO M b)=true):=fun a b ha hb=>by
  rw[hat2 a ha,hat2 b hb];constructor
  ·rintro⟨y,hy,h1,h2⟩
   have hE:=zJ5 M y (by rw[hy.inl,sH]);rw[Un h ha (hG a ha) zL9 hco hE]at h1;rw[Un h hb (hG b hb) zL9 hco hE]at h2;exact⟨_,zDE hy,h1,h2⟩
  ·rintro⟨v,hv,h1,h2⟩
   have hE:=zJ4 h v;refine⟨zD2 M v,zDD hv,?_,?_⟩
   ·rw[Un h ha (hG a ha) zL9 hco hE];exact h1
   ·rw[Un h hb (hG b hb) zL9 hco hE];exact h2
 have riv:∀a b,a<M.rules.length->b<M.rules.length->(KV rs (yB (nX M)) a b=true ↔ (vO M a).head=(vO M b).head/\gA (yB (nX M)) a b=false/\gA (yB (nX M)) b a=false):=fun a b ha hb=>by
  unfold KV;rw[hat2 a ha,hat2 b hb,VG (by omega) (by omega),VG (by omega) (by omega)]
  have hcon:(qG oT (M.heads.map (xG 99)) (nT (vO M a) a (G a))).conc=(qG oT (M.heads.map (xG 99)) (nT (vO M b) b (G b))).conc ↔ (vO M a).head=(vO M b).head:=by
   show zH (M.heads.map (xG 99)) (xG 99 (vO M a).head)=zH (M.heads.map (xG 99)) (xG 99 (vO M b).head) ↔ _;obtain⟨p,-,e1,e2⟩:=sL (l:=M.heads.map (xG 99)) (p9.2 ⟨_,VD h ha,rfl⟩);obtain⟨q,-,f1,f2⟩:=sL (l:=M.heads.map (xG 99)) (p9.2 ⟨_,VD h hb,rfl⟩);constructor
   ·intro e
    have:p=q:=by omega
    rw[this,f2]at e2;exact(Kc _ (Yl h hb) _ (Yl h ha) e2).symm
   ·intro e;rw[e]
  rw[pq,pw,hcon,pq];simp
 unfold U0 Kx;rw[hl,hgr,hll];constructor
 ·rintro⟨h1,h2,h3,h4⟩
  exact⟨h1,h2,⟨by omega,(riv i j (by omega) h2).1 h3⟩,(can i j (by omega) h2).1 h4⟩
 ·rintro⟨h1,h2,⟨-,h3⟩,h4⟩
  exact⟨h1,h2,(riv i j (by omega) h2).2 h3,(can i j (by omega) h2).2 h4⟩
structure FrG(M:yC)(G:Nat->GR):Prop where
 gr:∀i,i<M.rules.length->sT (xC M.heads (vO M i).head) (vO M i) (G i)
 calm:vL (yA M G)
 mod:DS (yA M G)
 good:∀x∈yA M G,gO x
theorem DC{low:List Nat}{p:yU}(h:jR low p)(m:Bool):0<=(bH m p).num/\(bH m p).num<=9999:=by
 unfold bH;rcases h with ⟨h0,h1,h2,h3⟩|⟨h0,h1,h2⟩|⟨h0,h1,h2,h3⟩|⟨h1,h2,d,hd,h3⟩
 ·rw[tb (by rw[h0];decide),tb (by omega),tb (by omega)];exact h1
 ·rw[tb (by rw[h0];decide),tl h1.1];exact⟨lh _,show (0:Int)<=9999 by decide⟩
 ·rw[tl h0];exact⟨h1.1,by show p.n<=9999;omega⟩
 ·by_cases h0:p.times=true
  ·rw[tl h0];exact⟨h1.1,by show p.n<=9999;omega⟩
  ·rw[tb h0,tb (by omega),tl (by omega)];exact⟨lh _,show (0:Int)<=9999 by decide⟩
theorem zAN{low:List Nat}{ps:List yU}(h:∀p∈ps,jR low p):∀q∈rB ps,0<=q.num/\q.num<=9999:=fun q hq=>by
 cases ps with
 | nil=>cases hq
 | cons p r =>
   rcases l6.1 hq with rfl|hq
   ·exact DC (h p (by simp)) _
   ·obtain⟨p',hp',rfl⟩:=p9.1 hq
    exact DC (h p' (by simp[hp'])) _
theorem zA8(h:yI M)(hG:∀i,i<M.rules.length->sT (xC M.heads (vO M i).head) (vO M i) (G i)):∀x∈yA M G,gO x:=fun x hx=>by
 unfold yA at hx;rcases pu.1 hx with hx|hx
 ·rcases pu.1 hx with hx|hx
  ·obtain⟨i,-,rfl⟩:=p9.1 hx
   unfold oB;by_cases h3:i<3
   ·have hn:=h.nums i h3
    rw[tl h3];exact⟨.inl rfl,hn.1,by show M.lo i<=9999;omega,by show 0<=M.hi i;omega,by show M.hi i<=9999;omega,fun a ha=>absurd ha (by simp),by simp,Zr,fun q=>absurd (show (1:Int)=3 from q) (by decide)⟩
   ·rw[tb h3]
    exact⟨.inr (.inl rfl),lh _,show (0:Int)<=9999 by decide,lh _,show (0:Int)<=9999 by decide,fun a ha=>absurd ha (by simp),by simp,Zr,fun q=>absurd (show (2:Int)=3 from q) (by decide)⟩
  ·obtain⟨i,hi,rfl⟩:=p9.1 hx
   have hi2:=py.1 hi;have hr:=h.rules _ (lI hi2);have hg:=hG i hi2;obtain⟨t,l,k,-,hD⟩:=hg.den;have hb:=wG hD;have hl:(rB (vO M i).parts).length=(vO M i).parts.length:=VT _;exact⟨.inr (.inr (.inl rfl)),lh _,show (0:Int)<=9999 by decide,lh _,show (0:Int)<=9999 by decide,fun a ha=>zAN hr.parts.2.2 _ (by unfold Qf;rw[pd,pb ha];exact dm ha),by show (rB (vO M i).parts).length<=10000;have:=hr.parts.2.1;omega,hg.good,fun _=>⟨by show 0<(rB (vO M i).parts).length;have:=hr.parts.1;omega,hb.1,hb.2⟩⟩
 ·obtain⟨p,-,rfl⟩:=p9.1 hx
  exact⟨.inr (.inr (.inr rfl)),lh _,show (0:Int)<=9999 by decide,lh _,show (0:Int)<=9999 by decide,fun a ha=>absurd ha (by simp[cT]),by simp[cT],Zr,fun q=>absurd (show (4:Int)=3 from q) (by decide)⟩
theorem zIU(hG:∀i,i<M.rules.length->sT (xC M.heads (vO M i).head) (vO M i) (G i)):∀x∈yA M G,x.nd.length<=10000:=fun x hx=>by
 unfold yA at hx;rcases pu.1 hx with hx|hx
 ·rcases pu.1 hx with hx|hx
  ·obtain⟨i,-,rfl⟩:=p9.1 hx
   unfold oB;split <;> simp
  ·obtain⟨i,hi,rfl⟩:=p9.1 hx
   have:=(hG i (py.1 hi)).cnt;show (G i).nd.length<=10000;omega
 ·obtain⟨p,-,rfl⟩:=p9.1 hx
  simp[cT]
end Go.Proofs.YtnbpdffdnphbeabGreatDoor
