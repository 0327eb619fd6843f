import Derived.Test.YtnbpdffdnphbeabGreatDoorPFtxt
import Derived.Test.YtnbpdffdnphbeabGreatDoorDAsk
namespace Go.Proofs.YtnbpdffdnphbeabGreatDoor
variable{i a h:Nat}{t:zX}
structure FV where
 inn:Nat->Int
 has:Nat->Bool
 val:Nat->Int
variable{v:FV}
def aQ(x:Int)(k:Nat)(y:Int):Bool:=if k=0 then decide (x<y) else if k=1 then decide (x<=y) else if k=2 then decide (x=y) else if k=3 then decide (x≠y) else if k=4 then decide (y<=x) else decide (y<x)
def YR(v:FV)(t:zX):Bool:=if t.kind=0 then true else if t.kind=1 then decide (v.inn t.x.toNat=1) else if t.kind=2 then v.has t.x.toNat else if t.kind=3 then aQ (v.inn t.x.toNat) t.mark.toNat t.n else aQ (v.inn t.x.toNat) t.mark.toNat (v.inn t.y.toNat)
def cG(v:FV)(t:zX):Bool:=YR v t != t.not
def uq(v:FV):Bool->Bool->List zX->Bool
 | s,r,[]=>s || r
 | s,r,t::l=>if t.or=true then uq v (s || r) (cG v t) l else uq v s (r&&cG v t) l
def fR(v:FV)(ps:List yR):Bool:=ps.all fun p=>decide (p.head<0) || v.has p.head.toNat
def F7(v:FV)(wh:Bool):List zX->Bool
 | []=>true != wh
 | t::l=>uq v false (cG v t) l != wh
def bG(v:FV)(r:vF):Bool:=fR v r.parts&&F7 v r.whole r.tests
structure dZ(M:zT)(v:FV):Prop where
 num:∀i,i<3->M.lo i<=v.inn i/\v.inn i<=M.hi i
 flag:∀i,3<=i->i<5->v.inn i=0\/v.inn i=1
def jW(M:zT):List Bool:=(List.range 64).map fun q=>M.over (q/8) (q%8)
theorem fO(M:zT):(jW M).length=64:=by unfold jW;simp
theorem Ub(M:zT){b:Nat}(ha:a<8)(hb:b<8):gA (jW M) a b=M.over a b:=by
 unfold gA jW;have hq:a*8+b<64:=by omega
 simp[List.getD,hq,show (a*8+b)/8=a by omega,show (a*8+b)%8=b by omega]
theorem aE{hs:List Bool}{a:Int}(h0:0<=a)(h1:a.toNat<hs.length):tH hs a=hs.getD a.toNat false:=by
 unfold tH;rw[tl h0,tl (show a<(hs.length:Int) by omega)];rfl
def evA(E:Yb):GA:=⟨Bool,fun t=>Xp E [] (tZ t),fun x y=>x&&y,fun x y=>x || y,fun _ x => !x,fun N i _ b=>0<=i/\i.toNat<N.length/\(Ym E N).getD i.toNat false=b⟩
theorem uj(E:Yb)(N M:List zM)(h:a<N.length):(Ym E (N++M)).getD a false=(Ym E N).getD a false:=by
 have:=Fx E (N++M) N.length a h (by rw[tb];omega);rw[List.take_left' rfl]at this;exact this.symm
theorem iS(E:Yb)(N:List zM)(x:zM):(Ym E (N++[x])).getD N.length false=Xp E (Ym E N) x:=by
 rw[ui E (N++[x]) N.length (by simp),List.take_left' rfl];have:=ve N x [];rw[md]at this;rw[this]
theorem DA(E:Yb)(hs:List Bool)(t:zX):Xp E hs (tZ t)=Xp E [] (tZ t):=by
 have hk:=wM t;have h1:¬(tZ t).kind=1:=by omega
 have h2:¬(tZ t).kind=2:=by omega
 have h3:¬(tZ t).kind=3:=by omega
 unfold Xp;simp only[t7 h1,t7 h2,t7 h3]
theorem zC1(E:Yb)(low:List Nat):(evA E).Ok low where
 ext:=fun N M i k b ⟨h0,h1,h2⟩=>⟨h0,by rw[tb];omega,by rw[uj E N M h1];exact h2⟩
 core:=fun N t _=>⟨by omega,by rw[tb];simp,by rw[Int.toNat_natCast,iS,DA];rfl⟩
 and:=fun N l kl (x:Bool) r kr (y:Bool) ⟨a0,a1,a2⟩ ⟨b0,b1,b2⟩ _ _=>by
  refine⟨by omega,by rw[tb];simp,?_⟩;rw[Int.toNat_natCast,iS];show (tH (Ym E N) l&&tH (Ym E N) r)=(x&&y);rw[aE a0 (by rw[bU];exact a1),aE b0 (by rw[bU];exact b1),a2,b2]
 or:=fun N l kl (x:Bool) r kr (y:Bool) ⟨a0,a1,a2⟩ ⟨b0,b1,b2⟩=>by
  refine⟨by omega,by rw[tb];simp,?_⟩;rw[Int.toNat_natCast,iS];show (tH (Ym E N) l || tH (Ym E N) r)=(x || y);rw[aE a0 (by rw[bU];exact a1),aE b0 (by rw[bU];exact b1),a2,b2]
 not:=fun N l kl (x:Bool) ⟨a0,a1,a2⟩=>by
  refine⟨by omega,by rw[tb];simp,?_⟩;rw[Int.toNat_natCast,iS];show (!tH (Ym E N) l)=(!x);rw[aE a0 (by rw[bU];exact a1),a2]
structure VD(heads:List Nat)(v:FV)(E:Yb):Prop where
 inp:∀i,i<5->E.inp (yG i)=v.inn i
 has:∀d∈heads,E.has (xG 99 d)=v.has d
def Ca(E:Yb)(x:GX):Bool:=x (evA E)
theorem jt{k:Nat}(hk:k<6)(x y:Int):Gm x (nC k) y=aQ x k y:=by
 have h:k=0\/k=1\/k=2\/k=3\/k=4\/k=5:=by omega
 unfold Gm aQ;rcases Int.lt_trichotomy x y with h1|h1|h1
 ·rw[tg h1]
  rcases h with rfl|rfl|rfl|rfl|rfl|rfl
  ·rw[tg rfl,tl h1];decide
  ·rw[t7 (by decide),tg rfl,tl (show x<=y by omega)];decide
  ·rw[t7 (by decide),t7 (by decide),tg rfl,tm (show ¬x=y by omega)];decide
  ·rw[t7 (by decide),t7 (by decide),t7 (by decide),tg rfl,tl (show x≠y by omega)];decide
  ·rw[t7 (by decide),t7 (by decide),t7 (by decide),t7 (by decide),tg rfl,tm (show ¬y<=x by omega)];decide
  ·rw[t7 (by decide),t7 (by decide),t7 (by decide),t7 (by decide),t7 (by decide),tm (show ¬y<x by omega)];decide
 ·rw[t7 (by omega),tg h1]
  rcases h with rfl|rfl|rfl|rfl|rfl|rfl
  ·rw[tg rfl,tm (show ¬x<y by omega)];decide
  ·rw[t7 (by decide),tg rfl,tl (show x<=y by omega)];decide
  ·rw[t7 (by decide),t7 (by decide),tg rfl,tl h1];decide
  ·rw[t7 (by decide),t7 (by decide),t7 (by decide),tg rfl,tm (show ¬x≠y by omega)];decide
  ·rw[t7 (by decide),t7 (by decide),t7 (by decide),t7 (by decide),tg rfl,tl (show y<=x by omega)];decide
  ·rw[t7 (by decide),t7 (by decide),t7 (by decide),t7 (by decide),t7 (by decide),tm (show ¬y<x by omega)];decide
 ·rw[t7 (by omega),t7 (by omega)]
  rcases h with rfl|rfl|rfl|rfl|rfl|rfl
  ·rw[tg rfl,tm (show ¬x<y by omega)];decide
  ·rw[t7 (by decide),tg rfl,tm (show ¬x<=y by omega)];decide
  ·rw[t7 (by decide),t7 (by decide),tg rfl,tm (show ¬x=y by omega)];decide
  ·rw[t7 (by decide),t7 (by decide),t7 (by decide),tg rfl,tl (show x≠y by omega)];decide
  ·rw[t7 (by decide),t7 (by decide),t7 (by decide),t7 (by decide),tg rfl,tl (show y<=x by omega)];decide
  ·rw[t7 (by decide),t7 (by decide),t7 (by decide),t7 (by decide),t7 (by decide),tl (show y<x by omega)];decide
theorem qo{heads:List Nat}{E:Yb}(hE:VD heads v E)(ht:xY (yW heads h) t):Xp E [] (tZ t)=YR v t:=by
 unfold tZ YR;rcases ht with h0|⟨h0,x1,x2⟩|⟨h0,d,hd,hx⟩|⟨h0,⟨x1,x2⟩,⟨y1,y2⟩,⟨m1,m2⟩,n1,n2⟩
 ·rw[tg h0,tg h0];rfl
 ·rw[t7 (show ¬t.kind=0 by omega),tg h0,t7 (show ¬t.kind=0 by omega),tg h0,<-hE.inp t.x.toNat (by omega)];rfl
 ·rw[t7 (show ¬t.kind=0 by omega),t7 (show ¬t.kind=1 by omega),tg h0,t7 (show ¬t.kind=0 by omega),t7 (show ¬t.kind=1 by omega),tg h0,hx,Int.toNat_natCast]
  have hm:d∈heads:=by unfold yW at hd;rw[mu]at hd;exact ly hd.2
  rw[<-hE.has d hm];rfl
 ·have e1:=hE.inp t.x.toNat (by omega)
  have e2:=hE.inp t.y.toNat (by omega);rcases h0 with h0|h0
  ·rw[t7 (show ¬t.kind=0 by omega),t7 (show ¬t.kind=1 by omega),t7 (show ¬t.kind=2 by omega),tg h0,t7 (show ¬t.kind=0 by omega),t7 (show ¬t.kind=1 by omega),t7 (show ¬t.kind=2 by omega),tg h0,<-jt (by omega),<-e1];rfl
  ·rw[t7 (show ¬t.kind=0 by omega),t7 (show ¬t.kind=1 by omega),t7 (show ¬t.kind=2 by omega),t7 (show ¬t.kind=3 by omega),t7 (show ¬t.kind=0 by omega),t7 (show ¬t.kind=1 by omega),t7 (show ¬t.kind=2 by omega),t7 (show ¬t.kind=3 by omega),<-jt (by omega),<-e1,<-e2]
   show Gm (E.inp (yG t.x.toNat)) (nC t.mark.toNat) (if yG t.y.toNat=[] then 0 else E.inp (yG t.y.toNat))=_;rw[t7 (by have:=iQ t.y.toNat;intro e;rw[e]at this;cases this)]
theorem CJ{heads:List Nat}{E:Yb}(hE:VD heads v E)(ht:xY (yW heads h) t):Ca E (jO t)=cG v t:=by
 have hc:=qo hE ht;unfold Ca jO cG;rw[<-hc];cases t.not
 ·show Xp E [] (tZ t)=(Xp E [] (tZ t) != false)
  cases Xp E [] (tZ t) <;> rfl
 ·show (!Xp E [] (tZ t))=(Xp E [] (tZ t) != true)
  cases Xp E [] (tZ t) <;> rfl
def zDW(E:Yb):Option GX->Bool
 | none=>false
 | some a=>Ca E a
theorem Uo(E:Yb)(acc:Option GX)(c:GX):Ca E (YB acc c)=(zDW E acc || Ca E c):=by
 cases acc with
 | none=>rfl
 | some a=>rfl
theorem zDK{heads:List Nat}{E:Yb}(hE:VD heads v E)(l:List zX):∀(acc:Option GX) (c:GX),(∀t∈l,xY (yW heads h) t)->Ca E (YI acc c l)=uq v (zDW E acc) (Ca E c) l:=by
 induction l with
 | nil=>intro acc c _;rw[uo,Uo];rfl
 | cons t r ih =>
   intro acc c hl;have ht:=CJ hE (hl t (by simp));have hr:∀q∈r,xY (yW heads h) q:=fun q hq=>hl q (mc _ hq);rw[F8,uq];cases ho:t.or
   ·rw[t7 (by decide),t7 (by decide),ih _ _ hr,<-ht];rfl
   ·rw[tg rfl,tg rfl,ih _ _ hr,<-ht,<-Uo];rfl
theorem zBN{heads:List Nat}{E:Yb}(hE:VD heads v E)(wh:Bool){l:List zX}(hl:∀q∈t::l,xY (yW heads h) q):Ca E (F5 wh t l)=F7 v wh (t::l):=by
 have e:=zDK hE l none (jO t) (fun q hq=>hl q (mc _ hq));rw[CJ hE (hl t (by simp))]at e;show Ca E (F5 wh t l)=(uq v false (cG v t) l != wh);rw[<-show Ca E (YI none (jO t) l)=uq v false (cG v t) l from e];unfold F5;cases wh
 ·rw[t7 (by decide)]
  cases Ca E (YI none (jO t) l) <;> rfl
 ·rw[tg rfl]
  show (!Ca E (YI none (jO t) l))=_;cases Ca E (YI none (jO t) l) <;> rfl
theorem F1{M:zT}{g:GR}(hr:bI M.heads (vB M i))(hg:sN (yW M.heads (vB M i).head) (vB M i) g){E:Yb}(hE:VD M.heads v E):tH (Ym E g.nd) g.root=F7 v (vB M i).whole (vB M i).tests:=by
 obtain⟨t,l,k,htl,hD⟩:=hg.den;obtain⟨h0,h1,h2⟩:=hD (evA E) (zC1 E _);have hT:=hr.tests.2.2;rw[htl]at hT ⊢;rw[aE h0 (by rw[bU];exact h1),h2];exact zBN hE _ hT
theorem xt{M:zT}{r:vF}(hr:bI M.heads r){ins cs:List Bs}{s:xZ}(zEL:∀i,i<3->0<=zJ ins (yG i))(hco:∀d,d<4->zJ ins (xG 99 d)<0)(hE:VD M.heads v (Yp ins cs s)):jU s ((gK r.parts).map (xJ ins cs))=fR v r.parts:=by
 have one:∀p m,qZ (yW M.heads r.head) p->(!(decide ((xJ ins cs (mS m p)).kind=3) && !tH s.has (xJ ins cs (mS m p)).place))=(decide (p.head<0) || v.has p.head.toNat):=fun p m hp=>by
  have h4:=hr.head;obtain⟨mi,ti,n,nu,hd⟩:=p;rcases hp with ⟨h0,h1,h2,h3⟩|⟨h0,h1,h2⟩|⟨h0,h1,h2,h3⟩|⟨h1,h2,d,hd4,h3⟩
  ·simp only at h0 h1 h2 h3
   subst h0 h2 h3;rfl
  ·simp only at h0 h1 h2
   subst h0 h2;have e2:mS m ⟨mi,false,n,nu,-1⟩=⟨m,false,0,yG nu.toNat⟩:=by simp[mS,h1.1]
   have hk:(xJ ins cs ⟨m,false,0,yG nu.toNat⟩).kind=2:=by
    have:=zEL nu.toNat (by omega);have zEB:¬yG nu.toNat=[]:=by intro e;have:=iQ nu.toNat;rw[e]at this;cases this
    unfold xJ Xr;simp only;rw[t7 zEB,t7 (by omega)]
   rw[e2,hk];rfl
  ·simp only at h0 h1 h2 h3
   subst h0 h3;have e2:mS m ⟨mi,true,n,nu,-1⟩=⟨m,true,n,yG nu.toNat⟩:=by simp[mS,h2.1]
   have hk:(xJ ins cs ⟨m,true,n,yG nu.toNat⟩).kind=2:=by
    have:=zEL nu.toNat (by omega);have zEB:¬yG nu.toNat=[]:=by intro e;have:=iQ nu.toNat;rw[e]at this;cases this
    unfold xJ Xr;simp only;rw[t7 zEB,t7 (by omega)]
   rw[e2,hk];rfl
  ·simp only at h1 h2 h3
   subst h2 h3;obtain⟨hm,zE9⟩:=Zn hd4;have hh:=hE.has d hm;have hc:=hco d (by omega)
   have key:∀(st:Bool) (z:Int),(!(decide ((xJ ins cs ⟨m,st,z,xG 99 d⟩).kind=3) && !tH s.has (xJ ins cs ⟨m,st,z,xG 99 d⟩).place))=v.has d:=fun st z=>by
    have zEB:¬xG 99 d=[]:=by unfold xG;simp
    have k1:(xJ ins cs ⟨m,st,z,xG 99 d⟩).kind=3:=by unfold xJ Xr;simp only;rw[t7 zEB,tg hc]
    have k2:(xJ ins cs ⟨m,st,z,xG 99 d⟩).place=zJ cs (xG 99 d):=by unfold xJ C1;simp only;rw[t7 zEB,tg hc]
    rw[k1,k2,<-hh];show (!(true && !tH s.has (zJ cs (xG 99 d))))=tH s.has (zJ cs (xG 99 d));cases tH s.has (zJ cs (xG 99 d)) <;> rfl
   have e3:(decide ((d:Int)<0) || v.has (d:Int).toNat)=v.has d:=by rw[tm (by omega),Int.toNat_natCast];rfl
   rw[e3];cases ti
   ·have e2:mS m ⟨mi,false,n,-1,d⟩=⟨m,false,0,xG 99 d⟩:=by simp[mS]
    rw[e2];exact key _ _
   ·have e2:mS m ⟨mi,true,n,-1,d⟩=⟨m,true,n,xG 99 d⟩:=by simp[mS]
    rw[e2];exact key _ _
 unfold jU fR
 cases hps:r.parts with
 | nil=>rfl
 | cons p rr =>
   have zEI:=hr.parts.2.2;rw[hps]at zEI;rw[show gK (p::rr)=mS false p::rr.map fun q=>mS q.minus q from rfl,bw,List.all_cons,List.all_cons,one p false (zEI p (by simp)),List.map_map,List.all_map];congr 1
   have h2:∀q∈rr,qZ (yW M.heads r.head) q:=fun q hq=>zEI q (mc _ hq);clear zEI hps
   induction rr with
   | nil=>rfl
   | cons q rr ih =>
     rw[List.all_cons,List.all_cons,ih fun x hx=>h2 x (mc _ hx)];congr 1
     exact one q q.minus (h2 q (by simp))
theorem zDU{M:zT}(h:yF M)(hi:i<M.rules.length){g:GR}(hg:sN (yW M.heads (vB M i).head) (vB M i) g){ins cs:List Bs}{s:xZ}(zEL:∀i,i<3->0<=zJ ins (yG i))(hco:∀d,d<4->zJ ins (xG 99 d)<0)(hE:VD M.heads v (Yp ins cs s)):iD (jB ins cs (fC (vB M i) i g)) s=bG v (vB M i):=by
 have hr:=h.rules _ (pV hi);unfold iD bG;rw[<-xt hr zEL hco hE,<-F1 hr hg hE];show (jU s ((gK (vB M i).parts).map (xJ ins cs))&&tH (dP s (g.nd.map (tO ins cs)) []) g.root)=_;rw[zBJ];rfl
variable {M:zT} {G:Nat->GR}
theorem ZD(M:zT)(G:Nat->GR):dW (zW M G)=(List.range M.rules.length).map fun i=>fC (vB M i) i (G i):=by
 unfold dW zW;rw[List.filter_append,List.filter_append]
 have h1:((List.range 5).map (fE M)).filter (fun x=>decide (x.kind=3))=[]:=List.filter_eq_nil_iff.2 fun x hx=>by
  obtain⟨i,-,rfl⟩:=p7.1 hx;rw[tm (kP M i).1];decide
 have h2:((List.range M.rules.length).map fun i=>fC (vB M i) i (G i)).filter (fun x=>decide (x.kind=3))=(List.range M.rules.length).map fun i=>fC (vB M i) i (G i):=List.filter_eq_self.2 fun x hx=>by
  obtain⟨i,-,rfl⟩:=p7.1 hx;rfl
 have h3:((Yi M).map lS).filter (fun x=>decide (x.kind=3))=[]:=List.filter_eq_nil_iff.2 fun x hx=>by
  obtain⟨i,-,rfl⟩:=p7.1 hx;exact(show ¬(decide ((4:Int)=3))=true by decide)
 rw[h1,h2,h3];simp
theorem XB(M:zT)(G:Nat->GR):yE (zW M G)=(List.range 5).map fun i=>tQ (fE M i):=by
 unfold yE;rw[Zx,ci];unfold zW;rw[List.filter_append,List.filter_append]
 have h1:((List.range 5).map (fE M)).filter (fun x=>decide (x.kind=1\/x.kind=2))=(List.range 5).map (fE M):=List.filter_eq_self.2 fun x hx=>by
  obtain⟨i,-,rfl⟩:=p7.1 hx;rw[cQ];split <;> decide
 have h2:((List.range M.rules.length).map fun i=>fC (vB M i) i (G i)).filter (fun x=>decide (x.kind=1\/x.kind=2))=[]:=List.filter_eq_nil_iff.2 fun x hx=>by
  obtain⟨i,-,rfl⟩:=p7.1 hx;exact(show ¬(decide ((3:Int)=1\/(3:Int)=2))=true by decide)
 have h3:((Yi M).map lS).filter (fun x=>decide (x.kind=1\/x.kind=2))=[]:=List.filter_eq_nil_iff.2 fun x hx=>by
  obtain⟨i,-,rfl⟩:=p7.1 hx;exact(show ¬(decide ((4:Int)=1\/(4:Int)=2))=true by decide)
 rw[h1,h2,h3];simp
def QS:List Bs:=(List.range 5).map yG
theorem XA(M:zT)(G:Nat->GR):uF (zW M G)=QS:=by
 unfold uF QS;rw[XB,List.map_map];refine List.map_congr_left fun i _=>?_;show (tQ (fE M i)).name=_;rw[Z0,fZ]
theorem KQ:∀i,i<5->zJ QS (yG i)=(i:Int):=by decide
theorem zBD:∀d,d<4->zJ QS (xG 99 d) = -1:=by decide
theorem Gl:∀i,i<4->∀j,j<4->xG 99 i=xG 99 j->i=j:=by decide
theorem YG{a:List zE}(h:∀x∈a,x.kind≠3):∀acc,vD a acc=acc:=by
 induction a with
 | nil=>intro acc;rfl
 | cons x r ih=>intro acc;rw[vD,t7 (fun q=>h x (by simp) q.1)];exact ih (fun y hy=>h y (mc _ hy)) acc
theorem BI(M:zT)(G:Nat->GR)(L:List Nat):∀acc:List Nat,(∀i∈L,(vB M i).head<4)->(∀d∈acc,d<4)->vD (L.map fun i=>fC (vB M i) i (G i)) (acc.map (xG 99))=((L.map fun i=>(vB M i).head).foldl iE acc).map (xG 99):=by
 induction L with
 | nil=>intro acc _ _;rfl
 | cons i r ih =>
   intro acc hL ha;have hi:=hL i (by simp);rw[bw,bw,vD,List.foldl_cons]
   have hf:zJ (acc.map (xG 99)) (xG 99 (vB M i).head)<0 ↔ (vB M i).head ∉ acc:=by
    unfold zJ;rw[cU];constructor
    ·intro h hm;exact h (p7.2 ⟨_,hm,rfl⟩)
    ·intro h hm
     obtain⟨d,hd,e⟩:=p7.1 hm;exact h (Gl d (ha d hd) _ hi e ▸ hd)
   have e:(if (fC (vB M i) i (G i)).kind=3/\zJ (acc.map (xG 99)) (fC (vB M i) i (G i)).conc<0 then acc.map (xG 99)++[(fC (vB M i) i (G i)).conc] else acc.map (xG 99))=(iE acc (vB M i).head).map (xG 99):=by
    unfold iE;by_cases hm:(vB M i).head∈acc
    ·rw[tg hm,t7 (fun q=>hf.1 q.2 hm)]
    ·rw[t7 hm,tg ⟨rfl,hf.2 hm⟩,lj];rfl
   rw[e];refine ih _ (fun j hj=>hL j (mc _ hj)) fun d hd=>?_;rcases J6.1 hd with h1|h1
   ·exact ha d h1
   ·omega
theorem Qp(M:zT):((List.range M.rules.length).map fun i=>(vB M i).head)=M.rules.map vF.head:=by
 refine List.ext_getElem (by simp) fun i h1 h2=>?_;simp at h1;simp[vB,List.getD,h1]
theorem lJ(h:yF M)(G:Nat->GR):zN (zW M G)=M.heads.map (xG 99):=by
 unfold zN zW;rw[Z7,Z7,YG (a:=(List.range 5).map (fE M)) (fun x hx=>by obtain⟨i,-,rfl⟩:=p7.1 hx;exact(kP M i).1)];have:=BI M G (List.range M.rules.length) [] (fun i hi=>VT h (ph.1 hi)) (fun d hd=>by cases hd);rw[List.map_nil]at this;rw[this,YG (fun x hx=>by obtain⟨i,-,rfl⟩:=p7.1 hx;exact(show ¬(4:Int)=3 by decide)),Qp,h.heads];rfl
theorem FC(M:zT)(G:Nat->GR):xP (zW M G)=(List.range M.rules.length).map (xG 114):=by
 rw[Zr,ZD,List.map_map];rfl
theorem rR:∀n,n<9->∀i,i<n->zJ ((List.range n).map (xG 114)) (xG 114 i)=(i:Int):=by decide
theorem x9(h:yF M){b:Nat}(ho:M.over a b=true):(a,b)∈Yi M:=by
 have:=h.over a b ho;unfold Yi;refine bq.2 ⟨a,ph.2 (by omega),bq.2 ⟨b,ph.2 (by omega),?_⟩⟩;rw[tg ho];simp
theorem BK(h:yF M)(G:Nat->GR):uB (xP (zW M G)) (zW M G) gZ=jW M:=by
 have h8:=h.few;rw[FC]
 have key:∀a b,a<8->b<8->gA (uB ((List.range M.rules.length).map (xG 114)) (zW M G) gZ) a b=gA (jW M) a b:=fun a b ha hb=>by
  rw[Zb _ (zW M G) ha hb gZ yY,FB,lk,Ub M ha hb];cases ho:M.over a b
  ·rw[List.any_eq_false]
   intro x hx hp;unfold qz at hp;simp only[pr,pu]at hp;rcases iT hx with ⟨k,hk,rfl⟩|⟨j,hj,rfl⟩|⟨p,hp',rfl⟩
   ·exact absurd hp.1 (kP M k).2
   ·exact absurd hp.1 (show ¬(3:Int)=4 by decide)
   ·obtain⟨p1,p2,p3⟩:=Xm h hp'
    obtain⟨-,ea,eb⟩:=hp;have ea:zJ ((List.range M.rules.length).map (xG 114)) (xG 114 p.1)=(a:Int):=ea;have eb:zJ ((List.range M.rules.length).map (xG 114)) (xG 114 p.2)=(b:Int):=eb;rw[rR _ (by omega) p.1 (by omega)]at ea;rw[rR _ (by omega) p.2 p2]at eb;rw[show a=p.1 by omega,show b=p.2 by omega,p3]at ho;cases ho
  ·rw[me]
   have hb2:=h.over a b ho;refine⟨lS (a,b),?_,?_⟩
   ·unfold zW
    exact List.mem_append_right _ (p7.2 ⟨_,x9 h ho,rfl⟩)
   ·unfold qz lS
    simp only;rw[rR _ (by omega) a (by omega),rR _ (by omega) b hb2.2.1];simp
 have hl:(uB ((List.range M.rules.length).map (xG 114)) (zW M G) gZ).length=64:=by rw[mE];exact yY
 have hl2:=fO M;refine List.ext_getElem (by omega) fun q h1 h2=>?_;have:=key (q/8) (q%8) (by omega) (by omega);unfold gA at this;rw[show q/8*8+q%8=q by omega]at this;simpa[List.getD,h1,h2] using this
theorem BQ{l:List Bs}{nm:Bs}(h:nm∈l):∃a:Nat,a<l.length/\zJ l nm=(a:Int)/\l.getD a []=nm:=by
 have h1:¬zJ l nm<0:=fun q=>(cU nm l 0).1 q h;have h2:=kR l nm;refine⟨(zJ l nm).toNat,by omega,by omega,lK (by omega)⟩
theorem zBE(hi:i<5):Z6 (yE (zW M G)) i=tQ (fE M i):=by
 unfold Z6;rw[XB];simp[List.getD,hi]
theorem BB(M:zT)(G:Nat->GR):(yE (zW M G)).length=5:=by rw[XB];simp
theorem BC(h:i<3):tQ (fE M i)=⟨yG i,false,M.lo i,M.hi i⟩:=by unfold tQ fE;rw[tg h];rfl
theorem KS(h:¬i<3):tQ (fE M i)=⟨yG i,true,0,0⟩:=by unfold tQ fE;rw[t7 h];rfl
structure FrG(M:zT)(G:Nat->GR):Prop where
 gr:∀i,i<M.rules.length->sN (yW M.heads (vB M i).head) (vB M i) (G i)
 calm:vJ (zW M G)
 mod:zA2 (zW M G)
 good:∀x∈zW M G,cW x
theorem Uy{low:List Nat}{p:yR}(h:qZ low p)(m:Bool):0<=(mS m p).num/\(mS m p).num<=9999:=by
 unfold mS;rcases h with ⟨h0,h1,h2,h3⟩|⟨h0,h1,h2⟩|⟨h0,h1,h2,h3⟩|⟨h1,h2,d,hd,h3⟩
 ·rw[t7 (by rw[h0];decide),t7 (by omega),t7 (by omega)];exact h1
 ·rw[t7 (by rw[h0];decide),tg h1.1];exact⟨mp _,show (0:Int)<=9999 by decide⟩
 ·rw[tg h0];exact⟨h1.1,by show p.n<=9999;omega⟩
 ·by_cases h0:p.times=true
  ·rw[tg h0];exact⟨h1.1,by show p.n<=9999;omega⟩
  ·rw[t7 h0,t7 (by omega),tg (by omega)];exact⟨mp _,show (0:Int)<=9999 by decide⟩
theorem FS9{low:List Nat}{ps:List yR}(h:∀p∈ps,qZ low p):∀q∈gK ps,0<=q.num/\q.num<=9999:=fun q hq=>by
 cases ps with
 | nil=>cases hq
 | cons p r =>
   rcases l3.1 hq with rfl|hq
   ·exact Uy (h p (by simp)) _
   ·obtain⟨p',hp',rfl⟩:=p7.1 hq
    exact Uy (h p' (by simp[hp'])) _
theorem FD(h:yF M)(hG:∀i,i<M.rules.length->sN (yW M.heads (vB M i).head) (vB M i) (G i)):∀x∈zW M G,cW x:=fun x hx=>by
 unfold zW at hx;rcases pt.1 hx with hx|hx
 ·rcases pt.1 hx with hx|hx
  ·obtain⟨i,-,rfl⟩:=p7.1 hx
   unfold fE;by_cases h3:i<3
   ·have hn:=h.nums i h3
    rw[tg h3];exact⟨.inl rfl,hn.1,by show M.lo i<=9999;omega,by show 0<=M.hi i;omega,by show M.hi i<=9999;omega,fun a ha=>absurd ha (by simp),by simp,aL,fun q=>absurd (show (1:Int)=3 from q) (by decide)⟩
   ·rw[t7 h3]
    exact⟨.inr (.inl rfl),mp _,show (0:Int)<=9999 by decide,mp _,show (0:Int)<=9999 by decide,fun a ha=>absurd ha (by simp),by simp,aL,fun q=>absurd (show (2:Int)=3 from q) (by decide)⟩
  ·obtain⟨i,hi,rfl⟩:=p7.1 hx
   have hi2:=ph.1 hi;have hr:=h.rules _ (pV hi2);have hg:=hG i hi2;obtain⟨t,l,k,-,hD⟩:=hg.den;have hb:=sL hD;have hl:(gK (vB M i).parts).length=(vB M i).parts.length:=Jp _;exact⟨.inr (.inr (.inl rfl)),mp _,show (0:Int)<=9999 by decide,mp _,show (0:Int)<=9999 by decide,fun a ha=>FS9 hr.parts.2.2 _ (by unfold Yc;rw[tu,p9 ha];exact cg ha),by show (gK (vB M i).parts).length<=10000;have:=hr.parts.2.1;omega,hg.good,fun _=>⟨by show 0<(gK (vB M i).parts).length;have:=hr.parts.1;omega,hb.1,hb.2⟩⟩
 ·obtain⟨p,-,rfl⟩:=p7.1 hx
  exact⟨.inr (.inr (.inr rfl)),mp _,show (0:Int)<=9999 by decide,mp _,show (0:Int)<=9999 by decide,fun a ha=>absurd ha (by simp[lS]),by simp[lS],aL,fun q=>absurd (show (4:Int)=3 from q) (by decide)⟩
theorem zBT(hG:∀i,i<M.rules.length->sN (yW M.heads (vB M i).head) (vB M i) (G i)):∀x∈zW M G,x.nd.length<=10000:=fun x hx=>by
 unfold zW at hx;rcases pt.1 hx with hx|hx
 ·rcases pt.1 hx with hx|hx
  ·obtain⟨i,-,rfl⟩:=p7.1 hx
   unfold fE;split <;> simp
  ·obtain⟨i,hi,rfl⟩:=p7.1 hx
   have:=(hG i (ph.1 hi)).cnt;show (G i).nd.length<=10000;omega
 ·obtain⟨p,-,rfl⟩:=p7.1 hx
  simp[lS]
end Go.Proofs.YtnbpdffdnphbeabGreatDoor
