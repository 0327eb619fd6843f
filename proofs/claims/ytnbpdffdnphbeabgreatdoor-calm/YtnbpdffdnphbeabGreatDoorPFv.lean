import Derived.Test.YtnbpdffdnphbeabGreatDoorPFtxt
import Derived.Test.YtnbpdffdnphbeabGreatDoorMSeek
namespace Go.Proofs.YtnbpdffdnphbeabGreatDoor
variable{h a i:Nat}{t:yB}
structure FV where
 inn:Nat->Int
 has:Nat->Bool
 val:Nat->Int
variable{v:FV}
def Zn(x:Int)(k:Nat)(y:Int):Bool:=if k=0 then decide (x<y) else if k=1 then decide (x<=y) else if k=2 then decide (x=y) else if k=3 then decide (x≠y) else if k=4 then decide (y<=x) else decide (y<x)
def QZ(v:FV)(t:yB):Bool:=if t.kind=0 then true else if t.kind=1 then decide (v.inn t.x.toNat=1) else if t.kind=2 then v.has t.x.toNat else if t.kind=3 then Zn (v.inn t.x.toNat) t.mark.toNat t.n else Zn (v.inn t.x.toNat) t.mark.toNat (v.inn t.y.toNat)
def fE(v:FV)(t:yB):Bool:=QZ v t != t.not
def zDZ(v:FV):Bool->Bool->List yB->Bool
 | s,r,[]=>s || r
 | s,r,t::l=>if t.or=true then zDZ v (s || r) (fE v t) l else zDZ v s (r&&fE v t) l
def oM(v:FV)(ps:List xJ):Bool:=ps.all fun p=>decide (p.head<0) || v.has p.head.toNat
def j3(v:FV)(wh:Bool):List yB->Bool
 | []=>true != wh
 | t::l=>zDZ v false (fE v t) l != wh
def nF(v:FV)(r:vP):Bool:=oM v r.parts&&j3 v r.whole r.tests
structure mG(M:yC)(v:FV):Prop where
 num:∀i,i<3->M.lo i<=v.inn i/\v.inn i<=M.hi i
 flag:∀i,3<=i->i<5->v.inn i=0\/v.inn i=1
def kT(M:yC):List Bool:=(List.range 64).map fun q=>M.over (q/8) (q%8)
theorem oJ(M:yC):(kT M).length=64:=by unfold kT;simp
theorem CS(M:yC){b:Nat}(ha:a<8)(hb:b<8):gA (kT M) a b=M.over a b:=by
 unfold gA kT;have hq:a*8+b<64:=by omega
 simp[List.getD,hq,show (a*8+b)/8=a by omega,show (a*8+b)%8=b by omega]
theorem oT{hs:List Bool}{a:Int}(h0:0<=a)(h1:a.toNat<hs.length):kP hs a=hs.getD a.toNat false:=by
 unfold kP;rw[tu h0,tu (show a<(hs.length:Int) by omega)];rfl
def evA(E:XU):GA:=⟨Bool,fun t=>J5 E [] (mJ t),fun x y=>x&&y,fun x y=>x || y,fun _ x => !x,fun N i _ b=>0<=i/\i.toNat<N.length/\(Qf E N).getD i.toNat false=b⟩
theorem zDS(E:XU)(N M:List zT)(h:a<N.length):(Qf E (N++M)).getD a false=(Qf E N).getD a false:=by
 have:=kj E (N++M) N.length a h (by rw[tl];omega);rw[List.take_left' rfl]at this;exact this.symm
theorem Yk(E:XU)(N:List zT)(x:zT):(Qf E (N++[x])).getD N.length false=J5 E (Qf E N) x:=by
 rw[zDR E (N++[x]) N.length (by simp),List.take_left' rfl];have:=zD1 N x [];rw[mq]at this;rw[this]
theorem ua(E:XU)(hs:List Bool)(t:yB):J5 E hs (mJ t)=J5 E [] (mJ t):=by
 have hk:=Y6 t;have h1:¬(mJ t).kind=1:=by omega
 have h2:¬(mJ t).kind=2:=by omega
 have h3:¬(mJ t).kind=3:=by omega
 unfold J5;simp only[tb h1,tb h2,tb h3]
theorem zI7(E:XU)(low:List Nat):(evA E).Ok low where
 ext:=fun N M i k b ⟨h0,h1,h2⟩=>⟨h0,by rw[tl];omega,by rw[zDS E N M h1];exact h2⟩
 core:=fun N t _=>⟨by omega,by rw[tl];simp,by rw[Int.toNat_natCast,Yk,ua];rfl⟩
 and:=fun N l kl (x:Bool) r kr (y:Bool) ⟨a0,a1,a2⟩ ⟨b0,b1,b2⟩ _ _=>by
  refine⟨by omega,by rw[tl];simp,?_⟩;rw[Int.toNat_natCast,Yk];show (kP (Qf E N) l&&kP (Qf E N) r)=(x&&y);rw[oT a0 (by rw[dN];exact a1),oT b0 (by rw[dN];exact b1),a2,b2]
 or:=fun N l kl (x:Bool) r kr (y:Bool) ⟨a0,a1,a2⟩ ⟨b0,b1,b2⟩=>by
  refine⟨by omega,by rw[tl];simp,?_⟩;rw[Int.toNat_natCast,Yk];show (kP (Qf E N) l || kP (Qf E N) r)=(x || y);rw[oT a0 (by rw[dN];exact a1),oT b0 (by rw[dN];exact b1),a2,b2]
 not:=fun N l kl (x:Bool) ⟨a0,a1,a2⟩=>by
  refine⟨by omega,by rw[tl];simp,?_⟩;rw[Int.toNat_natCast,Yk];show (!kP (Qf E N) l)=(!x);rw[oT a0 (by rw[dN];exact a1),a2]
structure Qn(heads:List Nat)(v:FV)(E:XU):Prop where
 inp:∀i,i<5->E.inp (yK i)=v.inn i
 has:∀d∈heads,E.has (yZ 99 d)=v.has d
def Gs(E:XU)(x:GX):Bool:=x (evA E)
theorem zFS{k:Nat}(hk:k<6)(x y:Int):zAA x (sA k) y=Zn x k y:=by
 have h:k=0\/k=1\/k=2\/k=3\/k=4\/k=5:=by omega
 unfold zAA Zn;rcases Int.lt_trichotomy x y with h1|h1|h1
 ·rw[tm h1]
  rcases h with rfl|rfl|rfl|rfl|rfl|rfl
  ·rw[tm rfl,tu h1];decide
  ·rw[tb (by decide),tm rfl,tu (show x<=y by omega)];decide
  ·rw[tb (by decide),tb (by decide),tm rfl,tq (show ¬x=y by omega)];decide
  ·rw[tb (by decide),tb (by decide),tb (by decide),tm rfl,tu (show x≠y by omega)];decide
  ·rw[tb (by decide),tb (by decide),tb (by decide),tb (by decide),tm rfl,tq (show ¬y<=x by omega)];decide
  ·rw[tb (by decide),tb (by decide),tb (by decide),tb (by decide),tb (by decide),tq (show ¬y<x by omega)];decide
 ·rw[tb (by omega),tm h1]
  rcases h with rfl|rfl|rfl|rfl|rfl|rfl
  ·rw[tm rfl,tq (show ¬x<y by omega)];decide
  ·rw[tb (by decide),tm rfl,tu (show x<=y by omega)];decide
  ·rw[tb (by decide),tb (by decide),tm rfl,tu h1];decide
  ·rw[tb (by decide),tb (by decide),tb (by decide),tm rfl,tq (show ¬x≠y by omega)];decide
  ·rw[tb (by decide),tb (by decide),tb (by decide),tb (by decide),tm rfl,tu (show y<=x by omega)];decide
  ·rw[tb (by decide),tb (by decide),tb (by decide),tb (by decide),tb (by decide),tq (show ¬y<x by omega)];decide
 ·rw[tb (by omega),tb (by omega)]
  rcases h with rfl|rfl|rfl|rfl|rfl|rfl
  ·rw[tm rfl,tq (show ¬x<y by omega)];decide
  ·rw[tb (by decide),tm rfl,tq (show ¬x<=y by omega)];decide
  ·rw[tb (by decide),tb (by decide),tm rfl,tq (show ¬x=y by omega)];decide
  ·rw[tb (by decide),tb (by decide),tb (by decide),tm rfl,tu (show x≠y by omega)];decide
  ·rw[tb (by decide),tb (by decide),tb (by decide),tb (by decide),tm rfl,tu (show y<=x by omega)];decide
  ·rw[tb (by decide),tb (by decide),tb (by decide),tb (by decide),tb (by decide),tu (show y<x by omega)];decide
theorem zEH{heads:List Nat}{E:XU}(hE:Qn heads v E)(ht:vB (xH heads h) t):J5 E [] (mJ t)=QZ v t:=by
 unfold mJ QZ;rcases ht with h0|⟨h0,x1,x2⟩|⟨h0,d,hd,hx⟩|⟨h0,⟨x1,x2⟩,⟨y1,y2⟩,⟨m1,m2⟩,n1,n2⟩
 ·rw[tm h0,tm h0];rfl
 ·rw[tb (show ¬t.kind=0 by omega),tm h0,tb (show ¬t.kind=0 by omega),tm h0,<-hE.inp t.x.toNat (by omega)];rfl
 ·rw[tb (show ¬t.kind=0 by omega),tb (show ¬t.kind=1 by omega),tm h0,tb (show ¬t.kind=0 by omega),tb (show ¬t.kind=1 by omega),tm h0,hx,Int.toNat_natCast]
  have hm:d∈heads:=by unfold xH at hd;rw[mj]at hd;exact cb hd.2
  rw[<-hE.has d hm];rfl
 ·have e1:=hE.inp t.x.toNat (by omega)
  have e2:=hE.inp t.y.toNat (by omega);rcases h0 with h0|h0
  ·rw[tb (show ¬t.kind=0 by omega),tb (show ¬t.kind=1 by omega),tb (show ¬t.kind=2 by omega),tm h0,tb (show ¬t.kind=0 by omega),tb (show ¬t.kind=1 by omega),tb (show ¬t.kind=2 by omega),tm h0,<-zFS (by omega),<-e1];rfl
  ·rw[tb (show ¬t.kind=0 by omega),tb (show ¬t.kind=1 by omega),tb (show ¬t.kind=2 by omega),tb (show ¬t.kind=3 by omega),tb (show ¬t.kind=0 by omega),tb (show ¬t.kind=1 by omega),tb (show ¬t.kind=2 by omega),tb (show ¬t.kind=3 by omega),<-zFS (by omega),<-e1,<-e2]
   show zAA (E.inp (yK t.x.toNat)) (sA t.mark.toNat) (if yK t.y.toNat=[] then 0 else E.inp (yK t.y.toNat))=_;rw[tb (by have:=JJ t.y.toNat;intro e;rw[e]at this;cases this)]
theorem zo{heads:List Nat}{E:XU}(hE:Qn heads v E)(ht:vB (xH heads h) t):Gs E (tR t)=fE v t:=by
 have hc:=zEH hE ht;unfold Gs tR fE;rw[<-hc];cases t.not
 ·show J5 E [] (mJ t)=(J5 E [] (mJ t) != false)
  cases J5 E [] (mJ t) <;> rfl
 ·show (!J5 E [] (mJ t))=(J5 E [] (mJ t) != true)
  cases J5 E [] (mJ t) <;> rfl
def zJR(E:XU):Option GX->Bool
 | none=>false
 | some a=>Gs E a
theorem Dg(E:XU)(acc:Option GX)(c:GX):Gs E (QF acc c)=(zJR E acc || Gs E c):=by
 cases acc with
 | none=>rfl
 | some a=>rfl
theorem zJJ{heads:List Nat}{E:XU}(hE:Qn heads v E)(l:List yB):∀(acc:Option GX) (c:GX),(∀t∈l,vB (xH heads h) t)->Gs E (QP acc c l)=zDZ v (zJR E acc) (Gs E c) l:=by
 induction l with
 | nil=>intro acc c _;rw[zDY,Dg];rfl
 | cons t r ih =>
   intro acc c hl;have ht:=zo hE (hl t (by simp));have hr:∀q∈r,vB (xH heads h) q:=fun q hq=>hl q (ms _ hq);rw[j4,zDZ];cases ho:t.or
   ·rw[tb (by decide),tb (by decide),ih _ _ hr,<-ht];rfl
   ·rw[tm rfl,tm rfl,ih _ _ hr,<-ht,<-Dg];rfl
theorem zHS{heads:List Nat}{E:XU}(hE:Qn heads v E)(wh:Bool){l:List yB}(hl:∀q∈t::l,vB (xH heads h) q):Gs E (kz wh t l)=j3 v wh (t::l):=by
 have e:=zJJ hE l none (tR t) (fun q hq=>hl q (ms _ hq));rw[zo hE (hl t (by simp))]at e;show Gs E (kz wh t l)=(zDZ v false (fE v t) l != wh);rw[<-show Gs E (QP none (tR t) l)=zDZ v false (fE v t) l from e];unfold kz;cases wh
 ·rw[tb (by decide)]
  cases Gs E (QP none (tR t) l) <;> rfl
 ·rw[tm rfl]
  show (!Gs E (QP none (tR t) l))=_;cases Gs E (QP none (tR t) l) <;> rfl
theorem kw{M:yC}{g:GR}(hr:nJ M.heads (vU M i))(hg:sN (xH M.heads (vU M i).head) (vU M i) g){E:XU}(hE:Qn M.heads v E):kP (Qf E g.nd) g.root=j3 v (vU M i).whole (vU M i).tests:=by
 obtain⟨t,l,k,htl,hD⟩:=hg.den;obtain⟨h0,h1,h2⟩:=hD (evA E) (zI7 E _);have hT:=hr.tests.2.2;rw[htl]at hT ⊢;rw[oT h0 (by rw[dN];exact h1),h2];exact zHS hE _ hT
theorem zCX{M:yC}{r:vP}(hr:nJ M.heads r){ins cs:List Bs}{s:xA}(zKF:∀i,i<3->0<=zI ins (yK i))(hco:∀d,d<4->zI ins (yZ 99 d)<0)(hE:Qn M.heads v (iS ins cs s)):jD s ((aV r.parts).map (uB ins cs))=oM v r.parts:=by
 have one:∀p m,pA (xH M.heads r.head) p->(!(decide ((uB ins cs (nY m p)).kind=3) && !kP s.has (uB ins cs (nY m p)).place))=(decide (p.head<0) || v.has p.head.toNat):=fun p m hp=>by
  have h4:=hr.head;obtain⟨mi,ti,n,nu,hd⟩:=p;rcases hp with ⟨h0,h1,h2,h3⟩|⟨h0,h1,h2⟩|⟨h0,h1,h2,h3⟩|⟨h1,h2,d,hd4,h3⟩
  ·simp only at h0 h1 h2 h3
   subst h0 h2 h3;rfl
  ·simp only at h0 h1 h2
   subst h0 h2;have e2:nY m ⟨mi,false,n,nu,-1⟩=⟨m,false,0,yK nu.toNat⟩:=by simp[nY,h1.1]
   have hk:(uB ins cs ⟨m,false,0,yK nu.toNat⟩).kind=2:=by
    have:=zKF nu.toNat (by omega);have zK8:¬yK nu.toNat=[]:=by intro e;have:=JJ nu.toNat;rw[e]at this;cases this
    unfold uB Bo;simp only;rw[tb zK8,tb (by omega)]
   rw[e2,hk];rfl
  ·simp only at h0 h1 h2 h3
   subst h0 h3;have e2:nY m ⟨mi,true,n,nu,-1⟩=⟨m,true,n,yK nu.toNat⟩:=by simp[nY,h2.1]
   have hk:(uB ins cs ⟨m,true,n,yK nu.toNat⟩).kind=2:=by
    have:=zKF nu.toNat (by omega);have zK8:¬yK nu.toNat=[]:=by intro e;have:=JJ nu.toNat;rw[e]at this;cases this
    unfold uB Bo;simp only;rw[tb zK8,tb (by omega)]
   rw[e2,hk];rfl
  ·simp only at h1 h2 h3
   subst h2 h3;obtain⟨hm,zK4⟩:=Xc hd4;have hh:=hE.has d hm;have hc:=hco d (by omega)
   have key:∀(st:Bool) (z:Int),(!(decide ((uB ins cs ⟨m,st,z,yZ 99 d⟩).kind=3) && !kP s.has (uB ins cs ⟨m,st,z,yZ 99 d⟩).place))=v.has d:=fun st z=>by
    have zK8:¬yZ 99 d=[]:=by unfold yZ;simp
    have k1:(uB ins cs ⟨m,st,z,yZ 99 d⟩).kind=3:=by unfold uB Bo;simp only;rw[tb zK8,tm hc]
    have k2:(uB ins cs ⟨m,st,z,yZ 99 d⟩).place=zI cs (yZ 99 d):=by unfold uB zFI;simp only;rw[tb zK8,tm hc]
    rw[k1,k2,<-hh];show (!(true && !kP s.has (zI cs (yZ 99 d))))=kP s.has (zI cs (yZ 99 d));cases kP s.has (zI cs (yZ 99 d)) <;> rfl
   have e3:(decide ((d:Int)<0) || v.has (d:Int).toNat)=v.has d:=by rw[tq (by omega),Int.toNat_natCast];rfl
   rw[e3];cases ti
   ·have e2:nY m ⟨mi,false,n,-1,d⟩=⟨m,false,0,yZ 99 d⟩:=by simp[nY]
    rw[e2];exact key _ _
   ·have e2:nY m ⟨mi,true,n,-1,d⟩=⟨m,true,n,yZ 99 d⟩:=by simp[nY]
    rw[e2];exact key _ _
 unfold jD oM
 cases hps:r.parts with
 | nil=>rfl
 | cons p rr =>
   have zKG:=hr.parts.2.2;rw[hps]at zKG;rw[show aV (p::rr)=nY false p::rr.map fun q=>nY q.minus q from rfl,dq,fd,fd,one p false (zKG p (by simp)),List.map_map,List.all_map];congr 1
   have h2:∀q∈rr,pA (xH M.heads r.head) q:=fun q hq=>zKG q (ms _ hq);clear zKG hps
   induction rr with
   | nil=>rfl
   | cons q rr ih =>
     rw[fd,fd,ih fun x hx=>h2 x (ms _ hx)];congr 1
     exact one q q.minus (h2 q (by simp))
theorem XG{M:yC}(h:yD M)(hi:i<M.rules.length){g:GR}(hg:sN (xH M.heads (vU M i).head) (vU M i) g){ins cs:List Bs}{s:xA}(zKF:∀i,i<3->0<=zI ins (yK i))(hco:∀d,d<4->zI ins (yZ 99 d)<0)(hE:Qn M.heads v (iS ins cs s)):qU (uX ins cs (gK (vU M i) i g)) s=nF v (vU M i):=by
 have hr:=h.rules _ (bL hi);unfold qU nF;rw[<-zCX hr zKF hco hE,<-kw hr hg hE];show (jD s ((aV (vU M i).parts).map (uB ins cs))&&kP (cU s (g.nd.map (pZ ins cs)) []) g.root)=_;rw[zHO];rfl
variable {M:yC} {G:Nat->GR}
theorem Xv(M:yC)(G:Nat->GR):fG (zX M G)=(List.range M.rules.length).map fun i=>gK (vU M i) i (G i):=by
 unfold fG zX;rw[dk,dk]
 have h1:((List.range 5).map (nX M)).filter (fun x=>decide (x.kind=3))=[]:=List.filter_eq_nil_iff.2 fun x hx=>by
  obtain⟨i,-,rfl⟩:=p8.1 hx;rw[tq (jQ M i).1];decide
 have h2:((List.range M.rules.length).map fun i=>gK (vU M i) i (G i)).filter (fun x=>decide (x.kind=3))=(List.range M.rules.length).map fun i=>gK (vU M i) i (G i):=List.filter_eq_self.2 fun x hx=>by
  obtain⟨i,-,rfl⟩:=p8.1 hx;rfl
 have h3:((Qc M).map cM).filter (fun x=>decide (x.kind=3))=[]:=List.filter_eq_nil_iff.2 fun x hx=>by
  obtain⟨i,-,rfl⟩:=p8.1 hx;exact(show ¬(decide ((4:Int)=3))=true by decide)
 rw[h1,h2,h3];simp
theorem JR(M:yC)(G:Nat->GR):zR (zX M G)=(List.range 5).map fun i=>mC (nX M i):=by
 unfold zR;rw[Xl,di];unfold zX;rw[dk,dk]
 have h1:((List.range 5).map (nX M)).filter (fun x=>decide (x.kind=1\/x.kind=2))=(List.range 5).map (nX M):=List.filter_eq_self.2 fun x hx=>by
  obtain⟨i,-,rfl⟩:=p8.1 hx;rw[fQ];split <;> decide
 have h2:((List.range M.rules.length).map fun i=>gK (vU M i) i (G i)).filter (fun x=>decide (x.kind=1\/x.kind=2))=[]:=List.filter_eq_nil_iff.2 fun x hx=>by
  obtain⟨i,-,rfl⟩:=p8.1 hx;exact(show ¬(decide ((3:Int)=1\/(3:Int)=2))=true by decide)
 have h3:((Qc M).map cM).filter (fun x=>decide (x.kind=1\/x.kind=2))=[]:=List.filter_eq_nil_iff.2 fun x hx=>by
  obtain⟨i,-,rfl⟩:=p8.1 hx;exact(show ¬(decide ((4:Int)=1\/(4:Int)=2))=true by decide)
 rw[h1,h2,h3];simp
def dW:List Bs:=(List.range 5).map yK
theorem Yo(M:yC)(G:Nat->GR):uC (zX M G)=dW:=by
 unfold uC dW;rw[JR,List.map_map];refine List.map_congr_left fun i _=>?_;show (mC (nX M i)).name=_;rw[aQ,fP]
theorem Zd:∀i,i<5->zI dW (yK i)=(i:Int):=by decide
theorem B9:∀d,d<4->zI dW (yZ 99 d) = -1:=by decide
theorem XD:∀i,i<4->∀j,j<4->yZ 99 i=yZ 99 j->i=j:=by decide
theorem QN{a:List zE}(h:∀x∈a,x.kind≠3):∀acc,uM a acc=acc:=by
 induction a with
 | nil=>intro acc;rfl
 | cons x r ih=>intro acc;rw[uM,tb (fun q=>h x (by simp) q.1)];exact ih (fun y hy=>h y (ms _ hy)) acc
theorem FW(M:yC)(G:Nat->GR)(L:List Nat):∀acc:List Nat,(∀i∈L,(vU M i).head<4)->(∀d∈acc,d<4)->uM (L.map fun i=>gK (vU M i) i (G i)) (acc.map (yZ 99))=((L.map fun i=>(vU M i).head).foldl ZV acc).map (yZ 99):=by
 induction L with
 | nil=>intro acc _ _;rfl
 | cons i r ih =>
   intro acc hL ha;have hi:=hL i (by simp);rw[dq,dq,uM,List.foldl_cons]
   have hf:zI (acc.map (yZ 99)) (yZ 99 (vU M i).head)<0 ↔ (vU M i).head ∉ acc:=by
    unfold zI;rw[fV];constructor
    ·intro h hm;exact h (p8.2 ⟨_,hm,rfl⟩)
    ·intro h hm
     obtain⟨d,hd,e⟩:=p8.1 hm;exact h (XD d (ha d hd) _ hi e ▸ hd)
   have e:(if (gK (vU M i) i (G i)).kind=3/\zI (acc.map (yZ 99)) (gK (vU M i) i (G i)).conc<0 then acc.map (yZ 99)++[(gK (vU M i) i (G i)).conc] else acc.map (yZ 99))=(ZV acc (vU M i).head).map (yZ 99):=by
    unfold ZV;by_cases hm:(vU M i).head∈acc
    ·rw[tm hm,tb (fun q=>hf.1 q.2 hm)]
    ·rw[tb hm,tm ⟨rfl,hf.2 hm⟩,bg];rfl
   rw[e];refine ih _ (fun j hj=>hL j (ms _ hj)) fun d hd=>?_;rcases Uj.1 hd with h1|h1
   ·exact ha d h1
   ·omega
theorem KH(M:yC):((List.range M.rules.length).map fun i=>(vU M i).head)=M.rules.map vP.head:=by
 refine List.ext_getElem (by simp) fun i h1 h2=>?_;simp at h1;simp[vU,List.getD,h1]
theorem kR(h:yD M)(G:Nat->GR):zO (zX M G)=M.heads.map (yZ 99):=by
 unfold zO zX;rw[Xp,Xp,QN (a:=(List.range 5).map (nX M)) (fun x hx=>by obtain⟨i,-,rfl⟩:=p8.1 hx;exact(jQ M i).1)];have:=FW M G (List.range M.rules.length) [] (fun i hi=>Ya h (pq.1 hi)) (fun d hd=>by cases hd);rw[List.map_nil]at this;rw[this,QN (fun x hx=>by obtain⟨i,-,rfl⟩:=p8.1 hx;exact(show ¬(4:Int)=3 by decide)),KH,h.heads];rfl
theorem j6(M:yC)(G:Nat->GR):xW (zX M G)=(List.range M.rules.length).map (yZ 114):=by
 rw[Xg,Xv,List.map_map];rfl
theorem iD:∀n,n<9->∀i,i<n->zI ((List.range n).map (yZ 114)) (yZ 114 i)=(i:Int):=by decide
theorem zCR(h:yD M){b:Nat}(ho:M.over a b=true):(a,b)∈Qc M:=by
 have:=h.over a b ho;unfold Qc;refine bh.2 ⟨a,pq.2 (by omega),bh.2 ⟨b,pq.2 (by omega),?_⟩⟩;rw[tm ho];simp
theorem QR(h:yD M)(G:Nat->GR):uT (xW (zX M G)) (zX M G) gZ=kT M:=by
 have h8:=h.few;rw[j6]
 have key:∀a b,a<8->b<8->gA (uT ((List.range M.rules.length).map (yZ 114)) (zX M G) gZ) a b=gA (kT M) a b:=fun a b ha hb=>by
  rw[YN _ (zX M G) ha hb gZ yY,j5,lu,CS M ha hb];cases ho:M.over a b
  ·rw[dw]
   intro x hx hp;unfold zEQ at hp;simp only[pj,pt]at hp;rcases Ym hx with ⟨k,hk,rfl⟩|⟨j,hj,rfl⟩|⟨p,hp',rfl⟩
   ·exact absurd hp.1 (jQ M k).2
   ·exact absurd hp.1 (show ¬(3:Int)=4 by decide)
   ·obtain⟨p1,p2,p3⟩:=J3 h hp'
    obtain⟨-,ea,eb⟩:=hp;have ea:zI ((List.range M.rules.length).map (yZ 114)) (yZ 114 p.1)=(a:Int):=ea;have eb:zI ((List.range M.rules.length).map (yZ 114)) (yZ 114 p.2)=(b:Int):=eb;rw[iD _ (by omega) p.1 (by omega)]at ea;rw[iD _ (by omega) p.2 p2]at eb;rw[show a=p.1 by omega,show b=p.2 by omega,p3]at ho;cases ho
  ·rw[md]
   have hb2:=h.over a b ho;refine⟨cM (a,b),?_,?_⟩
   ·unfold zX
    exact List.mem_append_right _ (p8.2 ⟨_,zCR h ho,rfl⟩)
   ·unfold zEQ cM
    simp only;rw[iD _ (by omega) a (by omega),iD _ (by omega) b hb2.2.1];simp
 have hl:(uT ((List.range M.rules.length).map (yZ 114)) (zX M G) gZ).length=64:=by rw[pT];exact yY
 have hl2:=oJ M;refine List.ext_getElem (by omega) fun q h1 h2=>?_;have:=key (q/8) (q%8) (by omega) (by omega);unfold gA at this;rw[show q/8*8+q%8=q by omega]at this;simpa[List.getD,h1,h2] using this
def zC7(M:yC)(v:FV):xA:=⟨(List.range 5).map v.inn,M.heads.map v.has,[]⟩
def zJM(M:yC)(y:xA):FV:=⟨fun i=>y.inputs.getD i 0,fun d=>kP y.has (zI (M.heads.map (yZ 99)) (yZ 99 d)),fun _=>0⟩
theorem X7(cs:List Bs)(y:xA)(hl:y.inputs.length=5)(hi:i<5):(iS dW cs y).inp (yK i)=y.inputs.getD i 0:=by
 show kF y.inputs (zI dW (yK i))=_;rw[Zd i hi];unfold kF;rw[tm ⟨by omega,by omega⟩,Int.toNat_natCast]
theorem zIA(M:yC)(y:xA)(hl:y.inputs.length=5):Qn M.heads (zJM M y) (iS dW (M.heads.map (yZ 99)) y):=⟨fun _ hi=>X7 _ y hl hi,fun _ _=>rfl⟩
theorem fW{l:List Bs}{nm:Bs}(h:nm∈l):∃a:Nat,a<l.length/\zI l nm=(a:Int)/\l.getD a []=nm:=by
 have h1:¬zI l nm<0:=fun q=>(fV nm l 0).1 q h;have h2:=jS l nm;refine⟨(zI l nm).toNat,by omega,by omega,bY (by omega)⟩
theorem zI9(h:yD M)(v:FV):Qn M.heads v (iS dW (M.heads.map (yZ 99)) (zC7 M v)):=by
 refine⟨fun i hi=>?_,fun d hd=>?_⟩
 ·rw[X7 _ (zC7 M v) (by simp[zC7]) hi]
  show ((List.range 5).map v.inn).getD i 0=_;simp[List.getD,hi]
 ·show kP (M.heads.map v.has) (zI (M.heads.map (yZ 99)) (yZ 99 d))=_
  obtain⟨a,ha,e1,e2⟩:=fW (l:=M.heads.map (yZ 99)) (p8.2 ⟨d,hd,rfl⟩);rw[pi]at ha
  have h4:∀x∈M.heads,x<4:=fun x hx=>by
   rw[h.heads]at hx;rcases(pI (M.rules.map vP.head) [] (x:=x)).1 hx with h1|h1
   ·cases h1
   ·obtain⟨r,hr,rfl⟩:=p8.1 h1;exact(h.rules r hr).head
  have e3:M.heads[a]=d:=by
   rw[pe,List.getElem?_map,p9 ha]at e2;exact XD _ (h4 _ (cx ha)) d (h4 d hd) e2
  rw[e1,oT (by omega) (by rw[pi];omega),Int.toNat_natCast];simp[List.getD,ha,e3]
theorem dX(hi:i<5):kU (zR (zX M G)) i=mC (nX M i):=by
 unfold kU;rw[JR];simp[List.getD,hi]
theorem bW(M:yC)(G:Nat->GR):(zR (zX M G)).length=5:=by rw[JR];simp
theorem mY(h:i<3):mC (nX M i)=⟨yK i,false,M.lo i,M.hi i⟩:=by unfold mC nX;rw[tm h];rfl
theorem gW(h:¬i<3):mC (nX M i)=⟨yK i,true,0,0⟩:=by unfold mC nX;rw[tb h];rfl
theorem zCG(hv:mG M v):fD (zR (zX M G)) M.heads.length (zC7 M v):=by
 have hl:=bW M G;refine⟨by rw[hl];simp[zC7],by simp[zC7],fun i hi hn=>?_,fun i hi hn=>?_⟩
 ·rw[hl]at hi
  have e:(zC7 M v).inputs.getD i 0=v.inn i:=by show ((List.range 5).map v.inn).getD i 0=_;simp[List.getD,hi]
  unfold xQ at hn;rw[dX hi]at hn ⊢;by_cases h3:i<3
  ·rw[mY h3,e];exact hv.num i h3
  ·rw[gW h3]at hn;cases hn
 ·rw[hl]at hi
  have e:(zC7 M v).inputs.getD i 0=v.inn i:=by show ((List.range 5).map v.inn).getD i 0=_;simp[List.getD,hi]
  unfold xQ at hn;rw[dX hi]at hn;by_cases h3:i<3
  ·rw[mY h3]at hn;cases hn
  ·rw[e];exact hv.flag i (by omega) hi
theorem zCH{y:xA}(hy:fD (zR (zX M G)) M.heads.length y):mG M (zJM M y):=by
 have hl:=bW M G;refine⟨fun i h3=>?_,fun i h3 h5=>?_⟩
 ·have:=hy.num i (by omega) (by unfold xQ;rw[dX (by omega),mY h3];rfl)
  rw[dX (by omega),mY h3]at this;exact this
 ·exact hy.flag i (by omega) (by unfold xQ;rw[dX h5,gW (by omega)];rfl)
def Kr(M:yC)(i j:Nat):Prop:=i≠j/\(vU M i).head=(vU M j).head/\gA (zS (kT M)) i j=false/\gA (zS (kT M)) j i=false
theorem V6(h:yD M)(hi:i<M.rules.length):(vU M i).head∈M.heads:=by
 rw[h.heads];exact(pI (M.rules.map vP.head) []).2 (.inr (p8.2 ⟨vU M i,bL hi,rfl⟩))
theorem BJ(h:yD M)(hG:∀i,i<M.rules.length->sN (xH M.heads (vU M i).head) (vU M i) (G i)){rs:List MX}(hr:rs.map Prod.fst=uD ((zR (zX M G)).map zP.name) ((yR (zX M G)).map Prod.fst) (zX M G))(i j:Nat) :
 Up (zR (zX M G)) (yR (zX M G)).length rs (Xs (zX M G)) i j ↔ i<j/\j<M.rules.length/\Kr M i j/\∃v,mG M v/\nF v (vU M i)=true/\nF v (vU M j)=true:=by
 have h8:=h.few;have hc:vJ (zX M G):=zFT (by rw[ZE h hG]);obtain⟨hl,hat⟩:=Vg hc hr;rw[Xv,pi,List.length_range]at hl hat
 have hat2:∀k,k<M.rules.length->(jC rs k).1=uX dW (M.heads.map (yZ 99)) (gK (vU M k) k (G k)):=fun k hk=>by
  rw[hat k hk,Yo,kR h];congr 1
  simp[List.getD,hk]
 have hgr:Xs (zX M G)=zS (kT M):=by unfold Xs;rw[QR h]
 have hll:(yR (zX M G)).length=M.heads.length:=by rw[oQ hc,kR h,pi]
 have zKF:∀k,k<3->0<=zI dW (yK k):=fun k hk=>by rw[Zd k (by omega)];omega
 have hco:∀d,d<4->zI dW (yZ 99 d)<0:=fun d hd=>by rw[B9 d hd];decide
 have can:∀a b,a<M.rules.length->b<M.rules.length->(zB1 (zR (zX M G)) M.heads.length (jC rs a).1 (jC rs b).1 ↔ ∃v,mG M v/\nF v (vU M a)=true/\nF v (vU M b)=true):=fun a b ha hb=>by
  rw[hat2 a ha,hat2 b hb];constructor
  ·rintro⟨y,hy,h1,h2⟩
   have hE:=zIA M y (by rw[hy.inl,bW]);rw[XG h ha (hG a ha) zKF hco hE]at h1;rw[XG h hb (hG b hb) zKF hco hE]at h2;exact⟨_,zCH hy,h1,h2⟩
  ·rintro⟨v,hv,h1,h2⟩
   have hE:=zI9 h v;refine⟨zC7 M v,zCG hv,?_,?_⟩
   ·rw[XG h ha (hG a ha) zKF hco hE];exact h1
   ·rw[XG h hb (hG b hb) zKF hco hE];exact h2
 have riv:∀a b,a<M.rules.length->b<M.rules.length->(KL rs (zS (kT M)) a b=true ↔ (vU M a).head=(vU M b).head/\gA (zS (kT M)) a b=false/\gA (zS (kT M)) b a=false):=fun a b ha hb=>by
  unfold KL;rw[hat2 a ha,hat2 b hb,V9 (by omega) (by omega),V9 (by omega) (by omega)]
  have hcon:(uX dW (M.heads.map (yZ 99)) (gK (vU M a) a (G a))).conc=(uX dW (M.heads.map (yZ 99)) (gK (vU M b) b (G b))).conc ↔ (vU M a).head=(vU M b).head:=by
   show zI (M.heads.map (yZ 99)) (yZ 99 (vU M a).head)=zI (M.heads.map (yZ 99)) (yZ 99 (vU M b).head) ↔ _;obtain⟨p,-,e1,e2⟩:=fW (l:=M.heads.map (yZ 99)) (p8.2 ⟨_,V6 h ha,rfl⟩);obtain⟨q,-,f1,f2⟩:=fW (l:=M.heads.map (yZ 99)) (p8.2 ⟨_,V6 h hb,rfl⟩);constructor
   ·intro e
    have:p=q:=by omega
    rw[this,f2]at e2;exact(XD _ (Ya h hb) _ (Ya h ha) e2).symm
   ·intro e;rw[e]
  rw[pj,pt,hcon,pj];simp
 unfold Up Kr;rw[hl,hgr,hll];constructor
 ·rintro⟨h1,h2,h3,h4⟩
  exact⟨h1,h2,⟨by omega,(riv i j (by omega) h2).1 h3⟩,(can i j (by omega) h2).1 h4⟩
 ·rintro⟨h1,h2,⟨-,h3⟩,h4⟩
  exact⟨h1,h2,(riv i j (by omega) h2).2 h3,(can i j (by omega) h2).2 h4⟩
structure zK0(M:yC)(G:Nat->GR):Prop where
 gr:∀i,i<M.rules.length->sN (xH M.heads (vU M i).head) (vU M i) (G i)
 calm:vJ (zX M G)
 mod:D9 (zX M G)
 good:∀x∈zX M G,fX x
theorem Ds{low:List Nat}{p:xJ}(h:pA low p)(m:Bool):0<=(nY m p).num/\(nY m p).num<=9999:=by
 unfold nY;rcases h with ⟨h0,h1,h2,h3⟩|⟨h0,h1,h2⟩|⟨h0,h1,h2,h3⟩|⟨h1,h2,d,hd,h3⟩
 ·rw[tb (by rw[h0];decide),tb (by omega),tb (by omega)];exact h1
 ·rw[tb (by rw[h0];decide),tm h1.1];exact⟨l9 _,show (0:Int)<=9999 by decide⟩
 ·rw[tm h0];exact⟨h1.1,by show p.n<=9999;omega⟩
 ·by_cases h0:p.times=true
  ·rw[tm h0];exact⟨h1.1,by show p.n<=9999;omega⟩
  ·rw[tb h0,tb (by omega),tm (by omega)];exact⟨l9 _,show (0:Int)<=9999 by decide⟩
theorem jp{low:List Nat}{ps:List xJ}(h:∀p∈ps,pA low p):∀q∈aV ps,0<=q.num/\q.num<=9999:=fun q hq=>by
 cases ps with
 | nil=>cases hq
 | cons p r =>
   rcases mz.1 hq with rfl|hq
   ·exact Ds (h p (by simp)) _
   ·obtain⟨p',hp',rfl⟩:=p8.1 hq
    exact Ds (h p' (by simp[hp'])) _
theorem j7(h:yD M)(hG:∀i,i<M.rules.length->sN (xH M.heads (vU M i).head) (vU M i) (G i)):∀x∈zX M G,fX x:=fun x hx=>by
 unfold zX at hx;rcases pu.1 hx with hx|hx
 ·rcases pu.1 hx with hx|hx
  ·obtain⟨i,-,rfl⟩:=p8.1 hx
   unfold nX;by_cases h3:i<3
   ·have hn:=h.nums i h3
    rw[tm h3];exact⟨.inl rfl,hn.1,by show M.lo i<=9999;omega,by show 0<=M.hi i;omega,by show M.hi i<=9999;omega,fun a ha=>absurd ha (by simp),by simp,Zh,fun q=>absurd (show (1:Int)=3 from q) (by decide)⟩
   ·rw[tb h3]
    exact⟨.inr (.inl rfl),l9 _,show (0:Int)<=9999 by decide,l9 _,show (0:Int)<=9999 by decide,fun a ha=>absurd ha (by simp),by simp,Zh,fun q=>absurd (show (2:Int)=3 from q) (by decide)⟩
  ·obtain⟨i,hi,rfl⟩:=p8.1 hx
   have hi2:=pq.1 hi;have hr:=h.rules _ (bL hi2);have hg:=hG i hi2;obtain⟨t,l,k,-,hD⟩:=hg.den;have hb:=iV hD;have hl:(aV (vU M i).parts).length=(vU M i).parts.length:=VM _;exact⟨.inr (.inr (.inl rfl)),l9 _,show (0:Int)<=9999 by decide,l9 _,show (0:Int)<=9999 by decide,fun a ha=>jp hr.parts.2.2 _ (by unfold XV;rw[pe,p9 ha];exact cx ha),by show (aV (vU M i).parts).length<=10000;have:=hr.parts.2.1;omega,hg.good,fun _=>⟨by show 0<(aV (vU M i).parts).length;have:=hr.parts.1;omega,hb.1,hb.2⟩⟩
 ·obtain⟨p,-,rfl⟩:=p8.1 hx
  exact⟨.inr (.inr (.inr rfl)),l9 _,show (0:Int)<=9999 by decide,l9 _,show (0:Int)<=9999 by decide,fun a ha=>absurd ha (by simp[cM]),by simp[cM],Zh,fun q=>absurd (show (4:Int)=3 from q) (by decide)⟩
theorem zHZ(hG:∀i,i<M.rules.length->sN (xH M.heads (vU M i).head) (vU M i) (G i)):∀x∈zX M G,x.nd.length<=10000:=fun x hx=>by
 unfold zX at hx;rcases pu.1 hx with hx|hx
 ·rcases pu.1 hx with hx|hx
  ·obtain⟨i,-,rfl⟩:=p8.1 hx
   unfold nX;split <;> simp
  ·obtain⟨i,hi,rfl⟩:=p8.1 hx
   have:=(hG i (pq.1 hi)).cnt;show (G i).nd.length<=10000;omega
 ·obtain⟨p,-,rfl⟩:=p8.1 hx
  simp[cM]
end Go.Proofs.YtnbpdffdnphbeabGreatDoor
