import Derived.Test.YtnbpdffdnphbeabGreatDoorPFtxt
import Derived.Test.YtnbpdffdnphbeabGreatDoorMSeek
namespace Go.Proofs.YtnbpdffdnphbeabGreatDoor
variable{h i a:Nat}{t:yF}
structure FV where
 inn:Nat->Int
 has:Nat->Bool
 val:Nat->Int
variable{v:FV}
def Zd(x:Int)(k:Nat)(y:Int):Bool:=if k=0 then decide (x<y) else if k=1 then decide (x<=y) else if k=2 then decide (x=y) else if k=3 then decide (x≠y) else if k=4 then decide (y<=x) else decide (y<x)
def QM(v:FV)(t:yF):Bool:=if t.kind=0 then true else if t.kind=1 then decide (v.inn t.x.toNat=1) else if t.kind=2 then v.has t.x.toNat else if t.kind=3 then Zd (v.inn t.x.toNat) t.mark.toNat t.n else Zd (v.inn t.x.toNat) t.mark.toNat (v.inn t.y.toNat)
def dR(v:FV)(t:yF):Bool:=QM v t != t.not
def zEJ(v:FV):Bool->Bool->List yF->Bool
 | s,r,[]=>s || r
 | s,r,t::l=>if t.or=true then zEJ v (s || r) (dR v t) l else zEJ v s (r&&dR v t) l
def nW(v:FV)(ps:List xF):Bool:=ps.all fun p=>decide (p.head<0) || v.has p.head.toNat
def ja(v:FV)(wh:Bool):List yF->Bool
 | []=>true != wh
 | t::l=>zEJ v false (dR v t) l != wh
def gM(v:FV)(r:vR):Bool:=nW v r.parts&&ja v r.whole r.tests
structure ZD(M:yB)(v:FV):Prop where
 num:∀i,i<3->M.lo i<=v.inn i/\v.inn i<=M.hi i
 flag:∀i,3<=i->i<5->v.inn i=0\/v.inn i=1
def qV(M:yB):List Bool:=(List.range 64).map fun q=>M.over (q/8) (q%8)
theorem cB(M:yB):(qV M).length=64:=by unfold qV;simp
theorem Jw(M:yB){b:Nat}(ha:a<8)(hb:b<8):gA (qV M) a b=M.over a b:=by
 unfold gA qV;have hq:a*8+b<64:=by omega
 simp[List.getD,hq,show (a*8+b)/8=a by omega,show (a*8+b)%8=b by omega]
theorem oE{hs:List Bool}{a:Int}(h0:0<=a)(h1:a.toNat<hs.length):kV hs a=hs.getD a.toNat false:=by
 unfold kV;rw[ty h0,ty (show a<(hs.length:Int) by omega)];rfl
def evA(E:Ym):GA:=⟨Bool,fun t=>J2 E [] (lT t),fun x y=>x&&y,fun x y=>x || y,fun _ x => !x,fun N i _ b=>0<=i/\i.toNat<N.length/\(XS E N).getD i.toNat false=b⟩
theorem zED(E:Ym)(N M:List zN)(h:a<N.length):(XS E (N++M)).getD a false=(XS E N).getD a false:=by
 have:=j3 E (N++M) N.length a h (by rw[tq];omega);rw[List.take_left' rfl]at this;exact this.symm
theorem Yg(E:Ym)(N:List zN)(x:zN):(XS E (N++[x])).getD N.length false=J2 E (XS E N) x:=by
 rw[zEC E (N++[x]) N.length (by simp),List.take_left' rfl];have:=zDL N x [];rw[ms]at this;rw[this]
theorem ud(E:Ym)(hs:List Bool)(t:yF):J2 E hs (lT t)=J2 E [] (lT t):=by
 have hk:=Kw t;have h1:¬(lT t).kind=1:=by omega
 have h2:¬(lT t).kind=2:=by omega
 have h3:¬(lT t).kind=3:=by omega
 unfold J2;simp only[tj h1,tj h2,tj h3]
theorem zHV(E:Ym)(low:List Nat):(evA E).Ok low where
 ext:=fun N M i k b ⟨h0,h1,h2⟩=>⟨h0,by rw[tq];omega,by rw[zED E N M h1];exact h2⟩
 core:=fun N t _=>⟨by omega,by rw[tq];simp,by rw[Int.toNat_natCast,Yg,ud];rfl⟩
 and:=fun N l kl (x:Bool) r kr (y:Bool) ⟨a0,a1,a2⟩ ⟨b0,b1,b2⟩ _ _=>by
  refine⟨by omega,by rw[tq];simp,?_⟩;rw[Int.toNat_natCast,Yg];show (kV (XS E N) l&&kV (XS E N) r)=(x&&y);rw[oE a0 (by rw[dA];exact a1),oE b0 (by rw[dA];exact b1),a2,b2]
 or:=fun N l kl (x:Bool) r kr (y:Bool) ⟨a0,a1,a2⟩ ⟨b0,b1,b2⟩=>by
  refine⟨by omega,by rw[tq];simp,?_⟩;rw[Int.toNat_natCast,Yg];show (kV (XS E N) l || kV (XS E N) r)=(x || y);rw[oE a0 (by rw[dA];exact a1),oE b0 (by rw[dA];exact b1),a2,b2]
 not:=fun N l kl (x:Bool) ⟨a0,a1,a2⟩=>by
  refine⟨by omega,by rw[tq];simp,?_⟩;rw[Int.toNat_natCast,Yg];show (!kV (XS E N) l)=(!x);rw[oE a0 (by rw[dA];exact a1),a2]
structure Qa(heads:List Nat)(v:FV)(E:Ym):Prop where
 inp:∀i,i<5->E.inp (yV i)=v.inn i
 has:∀d∈heads,E.has (xL 99 d)=v.has d
def Gj(E:Ym)(x:GX):Bool:=x (evA E)
theorem zFP{k:Nat}(hk:k<6)(x y:Int):zAG x (rC k) y=Zd x k y:=by
 have h:k=0\/k=1\/k=2\/k=3\/k=4\/k=5:=by omega
 unfold zAG Zd;rcases Int.lt_trichotomy x y with h1|h1|h1
 ·rw[tr h1]
  rcases h with rfl|rfl|rfl|rfl|rfl|rfl
  ·rw[tr rfl,ty h1];decide
  ·rw[tj (by decide),tr rfl,ty (show x<=y by omega)];decide
  ·rw[tj (by decide),tj (by decide),tr rfl,tu (show ¬x=y by omega)];decide
  ·rw[tj (by decide),tj (by decide),tj (by decide),tr rfl,ty (show x≠y by omega)];decide
  ·rw[tj (by decide),tj (by decide),tj (by decide),tj (by decide),tr rfl,tu (show ¬y<=x by omega)];decide
  ·rw[tj (by decide),tj (by decide),tj (by decide),tj (by decide),tj (by decide),tu (show ¬y<x by omega)];decide
 ·rw[tj (by omega),tr h1]
  rcases h with rfl|rfl|rfl|rfl|rfl|rfl
  ·rw[tr rfl,tu (show ¬x<y by omega)];decide
  ·rw[tj (by decide),tr rfl,ty (show x<=y by omega)];decide
  ·rw[tj (by decide),tj (by decide),tr rfl,ty h1];decide
  ·rw[tj (by decide),tj (by decide),tj (by decide),tr rfl,tu (show ¬x≠y by omega)];decide
  ·rw[tj (by decide),tj (by decide),tj (by decide),tj (by decide),tr rfl,ty (show y<=x by omega)];decide
  ·rw[tj (by decide),tj (by decide),tj (by decide),tj (by decide),tj (by decide),tu (show ¬y<x by omega)];decide
 ·rw[tj (by omega),tj (by omega)]
  rcases h with rfl|rfl|rfl|rfl|rfl|rfl
  ·rw[tr rfl,tu (show ¬x<y by omega)];decide
  ·rw[tj (by decide),tr rfl,tu (show ¬x<=y by omega)];decide
  ·rw[tj (by decide),tj (by decide),tr rfl,tu (show ¬x=y by omega)];decide
  ·rw[tj (by decide),tj (by decide),tj (by decide),tr rfl,ty (show x≠y by omega)];decide
  ·rw[tj (by decide),tj (by decide),tj (by decide),tj (by decide),tr rfl,ty (show y<=x by omega)];decide
  ·rw[tj (by decide),tj (by decide),tj (by decide),tj (by decide),tj (by decide),ty (show y<x by omega)];decide
theorem zEY{heads:List Nat}{E:Ym}(hE:Qa heads v E)(ht:vU (xJ heads h) t):J2 E [] (lT t)=QM v t:=by
 unfold lT QM;rcases ht with h0|⟨h0,x1,x2⟩|⟨h0,d,hd,hx⟩|⟨h0,⟨x1,x2⟩,⟨y1,y2⟩,⟨m1,m2⟩,n1,n2⟩
 ·rw[tr h0,tr h0];rfl
 ·rw[tj (show ¬t.kind=0 by omega),tr h0,tj (show ¬t.kind=0 by omega),tr h0,<-hE.inp t.x.toNat (by omega)];rfl
 ·rw[tj (show ¬t.kind=0 by omega),tj (show ¬t.kind=1 by omega),tr h0,tj (show ¬t.kind=0 by omega),tj (show ¬t.kind=1 by omega),tr h0,hx,Int.toNat_natCast]
  have hm:d∈heads:=by unfold xJ at hd;rw[mw]at hd;exact cg hd.2
  rw[<-hE.has d hm];rfl
 ·have e1:=hE.inp t.x.toNat (by omega)
  have e2:=hE.inp t.y.toNat (by omega);rcases h0 with h0|h0
  ·rw[tj (show ¬t.kind=0 by omega),tj (show ¬t.kind=1 by omega),tj (show ¬t.kind=2 by omega),tr h0,tj (show ¬t.kind=0 by omega),tj (show ¬t.kind=1 by omega),tj (show ¬t.kind=2 by omega),tr h0,<-zFP (by omega),<-e1];rfl
  ·rw[tj (show ¬t.kind=0 by omega),tj (show ¬t.kind=1 by omega),tj (show ¬t.kind=2 by omega),tj (show ¬t.kind=3 by omega),tj (show ¬t.kind=0 by omega),tj (show ¬t.kind=1 by omega),tj (show ¬t.kind=2 by omega),tj (show ¬t.kind=3 by omega),<-zFP (by omega),<-e1,<-e2]
   show zAG (E.inp (yV t.x.toNat)) (rC t.mark.toNat) (if yV t.y.toNat=[] then 0 else E.inp (yV t.y.toNat))=_;rw[tj (by have:=JH t.y.toNat;intro e;rw[e]at this;cases this)]
theorem zg{heads:List Nat}{E:Ym}(hE:Qa heads v E)(ht:vU (xJ heads h) t):Gj E (tX t)=dR v t:=by
 have hc:=zEY hE ht;unfold Gj tX dR;rw[<-hc];cases t.not
 ·show J2 E [] (lT t)=(J2 E [] (lT t) != false)
  cases J2 E [] (lT t) <;> rfl
 ·show (!J2 E [] (lT t))=(J2 E [] (lT t) != true)
  cases J2 E [] (lT t) <;> rfl
def zJF(E:Ym):Option GX->Bool
 | none=>false
 | some a=>Gj E a
theorem CX(E:Ym)(acc:Option GX)(c:GX):Gj E (Q6 acc c)=(zJF E acc || Gj E c):=by
 cases acc with
 | none=>rfl
 | some a=>rfl
theorem zJA{heads:List Nat}{E:Ym}(hE:Qa heads v E)(l:List yF):∀(acc:Option GX) (c:GX),(∀t∈l,vU (xJ heads h) t)->Gj E (QD acc c l)=zEJ v (zJF E acc) (Gj E c) l:=by
 induction l with
 | nil=>intro acc c _;rw[zEI,CX];rfl
 | cons t r ih =>
   intro acc c hl;have ht:=zg hE (hl t (by simp));have hr:∀q∈r,vU (xJ heads h) q:=fun q hq=>hl q (pt _ hq);rw[jb,zEJ];cases ho:t.or
   ·rw[tj (by decide),tj (by decide),ih _ _ hr,<-ht];rfl
   ·rw[tr rfl,tr rfl,ih _ _ hr,<-ht,<-CX];rfl
theorem zHN{heads:List Nat}{E:Ym}(hE:Qa heads v E)(wh:Bool){l:List yF}(hl:∀q∈t::l,vU (xJ heads h) q):Gj E (j7 wh t l)=ja v wh (t::l):=by
 have e:=zJA hE l none (tX t) (fun q hq=>hl q (pt _ hq));rw[zg hE (hl t (by simp))]at e;show Gj E (j7 wh t l)=(zEJ v false (dR v t) l != wh);rw[<-show Gj E (QD none (tX t) l)=zEJ v false (dR v t) l from e];unfold j7;cases wh
 ·rw[tj (by decide)]
  cases Gj E (QD none (tX t) l) <;> rfl
 ·rw[tr rfl]
  show (!Gj E (QD none (tX t) l))=_;cases Gj E (QD none (tX t) l) <;> rfl
theorem j5{M:yB}{g:GR}(hr:gV M.heads (uU M i))(hg:iU (xJ M.heads (uU M i).head) (uU M i) g){E:Ym}(hE:Qa M.heads v E):kV (XS E g.nd) g.root=ja v (uU M i).whole (uU M i).tests:=by
 obtain⟨t,l,k,htl,hD⟩:=hg.den;obtain⟨h0,h1,h2⟩:=hD (evA E) (zHV E _);have hT:=hr.tests.2.2;rw[htl]at hT ⊢;rw[oE h0 (by rw[dA];exact h1),h2];exact zHN hE _ hT
theorem zDF{M:yB}{r:vR}(hr:gV M.heads r){ins cs:List Bs}{s:xQ}(zK3:∀i,i<3->0<=zJ ins (yV i))(hco:∀d,d<4->zJ ins (xL 99 d)<0)(hE:Qa M.heads v (aJ ins cs s)):pG s ((Xv r.parts).map (uR ins cs))=nW v r.parts:=by
 have one:∀p m,lF (xJ M.heads r.head) p->(!(decide ((uR ins cs (rW m p)).kind=3) && !kV s.has (uR ins cs (rW m p)).place))=(decide (p.head<0) || v.has p.head.toNat):=fun p m hp=>by
  have h4:=hr.head;obtain⟨mi,ti,n,nu,hd⟩:=p;rcases hp with ⟨h0,h1,h2,h3⟩|⟨h0,h1,h2⟩|⟨h0,h1,h2,h3⟩|⟨h1,h2,d,hd4,h3⟩
  ·simp only at h0 h1 h2 h3
   subst h0 h2 h3;rfl
  ·simp only at h0 h1 h2
   subst h0 h2;have e2:rW m ⟨mi,false,n,nu,-1⟩=⟨m,false,0,yV nu.toNat⟩:=by simp[rW,h1.1]
   have hk:(uR ins cs ⟨m,false,0,yV nu.toNat⟩).kind=2:=by
    have:=zK3 nu.toNat (by omega);have zJZ:¬yV nu.toNat=[]:=by intro e;have:=JH nu.toNat;rw[e]at this;cases this
    unfold uR zFI;simp only;rw[tj zJZ,tj (by omega)]
   rw[e2,hk];rfl
  ·simp only at h0 h1 h2 h3
   subst h0 h3;have e2:rW m ⟨mi,true,n,nu,-1⟩=⟨m,true,n,yV nu.toNat⟩:=by simp[rW,h2.1]
   have hk:(uR ins cs ⟨m,true,n,yV nu.toNat⟩).kind=2:=by
    have:=zK3 nu.toNat (by omega);have zJZ:¬yV nu.toNat=[]:=by intro e;have:=JH nu.toNat;rw[e]at this;cases this
    unfold uR zFI;simp only;rw[tj zJZ,tj (by omega)]
   rw[e2,hk];rfl
  ·simp only at h1 h2 h3
   subst h2 h3;obtain⟨hm,zJS⟩:=YT hd4;have hh:=hE.has d hm;have hc:=hco d (by omega)
   have key:∀(st:Bool) (z:Int),(!(decide ((uR ins cs ⟨m,st,z,xL 99 d⟩).kind=3) && !kV s.has (uR ins cs ⟨m,st,z,xL 99 d⟩).place))=v.has d:=fun st z=>by
    have zJZ:¬xL 99 d=[]:=by unfold xL;simp
    have k1:(uR ins cs ⟨m,st,z,xL 99 d⟩).kind=3:=by unfold uR zFI;simp only;rw[tj zJZ,tr hc]
    have k2:(uR ins cs ⟨m,st,z,xL 99 d⟩).place=zJ cs (xL 99 d):=by unfold uR zIN;simp only;rw[tj zJZ,tr hc]
    rw[k1,k2,<-hh];show (!(true && !kV s.has (zJ cs (xL 99 d))))=kV s.has (zJ cs (xL 99 d));cases kV s.has (zJ cs (xL 99 d)) <;> rfl
   have e3:(decide ((d:Int)<0) || v.has (d:Int).toNat)=v.has d:=by rw[tu (by omega),Int.toNat_natCast];rfl
   rw[e3];cases ti
   ·have e2:rW m ⟨mi,false,n,-1,d⟩=⟨m,false,0,xL 99 d⟩:=by simp[rW]
    rw[e2];exact key _ _
   ·have e2:rW m ⟨mi,true,n,-1,d⟩=⟨m,true,n,xL 99 d⟩:=by simp[rW]
    rw[e2];exact key _ _
 unfold pG nW
 cases hps:r.parts with
 | nil=>rfl
 | cons p rr =>
   have zK4:=hr.parts.2.2;rw[hps]at zK4;rw[show Xv (p::rr)=rW false p::rr.map fun q=>rW q.minus q from rfl,cq,fa,fa,one p false (zK4 p (by simp)),List.map_map,List.all_map];congr 1
   have h2:∀q∈rr,lF (xJ M.heads r.head) q:=fun q hq=>zK4 q (pt _ hq);clear zK4 hps
   induction rr with
   | nil=>rfl
   | cons q rr ih =>
     rw[fa,fa,ih fun x hx=>h2 x (pt _ hx)];congr 1
     exact one q q.minus (h2 q (by simp))
theorem QS{M:yB}(h:yH M)(hi:i<M.rules.length){g:GR}(hg:iU (xJ M.heads (uU M i).head) (uU M i) g){ins cs:List Bs}{s:xQ}(zK3:∀i,i<3->0<=zJ ins (yV i))(hco:∀d,d<4->zJ ins (xL 99 d)<0)(hE:Qa M.heads v (aJ ins cs s)):jN (qM ins cs (gX (uU M i) i g)) s=gM v (uU M i):=by
 have hr:=h.rules _ (fT hi);unfold jN gM;rw[<-zDF hr zK3 hco hE,<-j5 hr hg hE];show (pG s ((Xv (uU M i).parts).map (uR ins cs))&&kV (gF s (g.nd.map (mH ins cs)) []) g.root)=_;rw[zHL];rfl
variable {M:yB} {G:Nat->GR}
theorem BF(M:yB)(G:Nat->GR):zBR (yP M G)=(List.range M.rules.length).map fun i=>gX (uU M i) i (G i):=by
 unfold zBR yP;rw[dy,dy]
 have h1:((List.range 5).map (rK M)).filter (fun x=>decide (x.kind=3))=[]:=List.filter_eq_nil_iff.2 fun x hx=>by
  obtain⟨i,-,rfl⟩:=pd.1 hx;rw[tu (tC M i).1];decide
 have h2:((List.range M.rules.length).map fun i=>gX (uU M i) i (G i)).filter (fun x=>decide (x.kind=3))=(List.range M.rules.length).map fun i=>gX (uU M i) i (G i):=List.filter_eq_self.2 fun x hx=>by
  obtain⟨i,-,rfl⟩:=pd.1 hx;rfl
 have h3:((XO M).map dW).filter (fun x=>decide (x.kind=3))=[]:=List.filter_eq_nil_iff.2 fun x hx=>by
  obtain⟨i,-,rfl⟩:=pd.1 hx;exact(show ¬(decide ((4:Int)=3))=true by decide)
 rw[h1,h2,h3];simp
theorem JO(M:yB)(G:Nat->GR):yI (yP M G)=(List.range 5).map fun i=>mS (rK M i):=by
 unfold yI;rw[Xe,bj];unfold yP;rw[dy,dy]
 have h1:((List.range 5).map (rK M)).filter (fun x=>decide (x.kind=1\/x.kind=2))=(List.range 5).map (rK M):=List.filter_eq_self.2 fun x hx=>by
  obtain⟨i,-,rfl⟩:=pd.1 hx;rw[fD];split <;> decide
 have h2:((List.range M.rules.length).map fun i=>gX (uU M i) i (G i)).filter (fun x=>decide (x.kind=1\/x.kind=2))=[]:=List.filter_eq_nil_iff.2 fun x hx=>by
  obtain⟨i,-,rfl⟩:=pd.1 hx;exact(show ¬(decide ((3:Int)=1\/(3:Int)=2))=true by decide)
 have h3:((XO M).map dW).filter (fun x=>decide (x.kind=1\/x.kind=2))=[]:=List.filter_eq_nil_iff.2 fun x hx=>by
  obtain⟨i,-,rfl⟩:=pd.1 hx;exact(show ¬(decide ((4:Int)=1\/(4:Int)=2))=true by decide)
 rw[h1,h2,h3];simp
def oF:List Bs:=(List.range 5).map yV
theorem Df(M:yB)(G:Nat->GR):qW (yP M G)=oF:=by
 unfold qW oF;rw[JO,List.map_map];refine List.map_congr_left fun i _=>?_;show (mS (rK M i)).name=_;rw[aF,fB]
theorem B7:∀i,i<5->zJ oF (yV i)=(i:Int):=by decide
theorem qz:∀d,d<4->zJ oF (xL 99 d) = -1:=by decide
theorem JS:∀i,i<4->∀j,j<4->xL 99 i=xL 99 j->i=j:=by decide
theorem QB{a:List zE}(h:∀x∈a,x.kind≠3):∀acc,vO a acc=acc:=by
 induction a with
 | nil=>intro acc;rfl
 | cons x r ih=>intro acc;rw[vO,tj (fun q=>h x (by simp) q.1)];exact ih (fun y hy=>h y (pt _ hy)) acc
theorem FQ(M:yB)(G:Nat->GR)(L:List Nat):∀acc:List Nat,(∀i∈L,(uU M i).head<4)->(∀d∈acc,d<4)->vO (L.map fun i=>gX (uU M i) i (G i)) (acc.map (xL 99))=((L.map fun i=>(uU M i).head).foldl ZO acc).map (xL 99):=by
 induction L with
 | nil=>intro acc _ _;rfl
 | cons i r ih =>
   intro acc hL ha;have hi:=hL i (by simp);rw[cq,cq,vO,List.foldl_cons]
   have hf:zJ (acc.map (xL 99)) (xL 99 (uU M i).head)<0 ↔ (uU M i).head ∉ acc:=by
    unfold zJ;rw[fJ];constructor
    ·intro h hm;exact h (pd.2 ⟨_,hm,rfl⟩)
    ·intro h hm
     obtain⟨d,hd,e⟩:=pd.1 hm;exact h (JS d (ha d hd) _ hi e ▸ hd)
   have e:(if (gX (uU M i) i (G i)).kind=3/\zJ (acc.map (xL 99)) (gX (uU M i) i (G i)).conc<0 then acc.map (xL 99)++[(gX (uU M i) i (G i)).conc] else acc.map (xL 99))=(ZO acc (uU M i).head).map (xL 99):=by
    unfold ZO;by_cases hm:(uU M i).head∈acc
    ·rw[tr hm,tj (fun q=>hf.1 q.2 hm)]
    ·rw[tj hm,tr ⟨rfl,hf.2 hm⟩,lj];rfl
   rw[e];refine ih _ (fun j hj=>hL j (pt _ hj)) fun d hd=>?_;rcases VV.1 hd with h1|h1
   ·exact ha d h1
   ·omega
theorem K7(M:yB):((List.range M.rules.length).map fun i=>(uU M i).head)=M.rules.map vR.head:=by
 refine List.ext_getElem (by simp) fun i h1 h2=>?_;simp at h1;simp[uU,List.getD,h1]
theorem bS(h:yH M)(G:Nat->GR):yY (yP M G)=M.heads.map (xL 99):=by
 unfold yY yP;rw[Xi,Xi,QB (a:=(List.range 5).map (rK M)) (fun x hx=>by obtain⟨i,-,rfl⟩:=pd.1 hx;exact(tC M i).1)];have:=FQ M G (List.range M.rules.length) [] (fun i hi=>ZX h (md.1 hi)) (fun d hd=>by cases hd);rw[List.map_nil]at this;rw[this,QB (fun x hx=>by obtain⟨i,-,rfl⟩:=pd.1 hx;exact(show ¬(4:Int)=3 by decide)),K7,h.heads];rfl
theorem je(M:yB)(G:Nat->GR):uY (yP M G)=(List.range M.rules.length).map (xL 114):=by
 rw[qs,BF,List.map_map];rfl
theorem eY:∀n,n<9->∀i,i<n->zJ ((List.range n).map (xL 114)) (xL 114 i)=(i:Int):=by decide
theorem zD9(h:yH M){b:Nat}(ho:M.over a b=true):(a,b)∈XO M:=by
 have:=h.over a b ho;unfold XO;refine bq.2 ⟨a,md.2 (by omega),bq.2 ⟨b,md.2 (by omega),?_⟩⟩;rw[tr ho];simp
theorem FU(h:yH M)(G:Nat->GR):kE (uY (yP M G)) (yP M G) gZ=qV M:=by
 have h8:=h.few;rw[je]
 have key:∀a b,a<8->b<8->gA (kE ((List.range M.rules.length).map (xL 114)) (yP M G) gZ) a b=gA (qV M) a b:=fun a b ha hb=>by
  rw[KK _ (yP M G) ha hb gZ xO,jd,ce,Jw M ha hb];cases ho:M.over a b
  ·rw[List.any_eq_false]
   intro x hx hp;unfold zI6 at hp;simp only[mc,mj]at hp;rcases Yi hx with ⟨k,hk,rfl⟩|⟨j,hj,rfl⟩|⟨p,hp',rfl⟩
   ·exact absurd hp.1 (tC M k).2
   ·exact absurd hp.1 (show ¬(3:Int)=4 by decide)
   ·obtain⟨p1,p2,p3⟩:=Jv h hp'
    obtain⟨-,ea,eb⟩:=hp;have ea:zJ ((List.range M.rules.length).map (xL 114)) (xL 114 p.1)=(a:Int):=ea;have eb:zJ ((List.range M.rules.length).map (xL 114)) (xL 114 p.2)=(b:Int):=eb;rw[eY _ (by omega) p.1 (by omega)]at ea;rw[eY _ (by omega) p.2 p2]at eb;rw[show a=p.1 by omega,show b=p.2 by omega,p3]at ho;cases ho
  ·rw[l8]
   have hb2:=h.over a b ho;refine⟨dW (a,b),?_,?_⟩
   ·unfold yP
    exact List.mem_append_right _ (pd.2 ⟨_,zD9 h ho,rfl⟩)
   ·unfold zI6 dW
    simp only;rw[eY _ (by omega) a (by omega),eY _ (by omega) b hb2.2.1];simp
 have hl:(kE ((List.range M.rules.length).map (xL 114)) (yP M G) gZ).length=64:=by rw[dX];exact xO
 have hl2:=cB M;refine List.ext_getElem (by omega) fun q h1 h2=>?_;have:=key (q/8) (q%8) (by omega) (by omega);unfold gA at this;rw[show q/8*8+q%8=q by omega]at this;simpa[List.getD,h1,h2] using this
def zCN(M:yB)(v:FV):xQ:=⟨(List.range 5).map v.inn,M.heads.map v.has,[]⟩
def zJC(M:yB)(y:xQ):FV:=⟨fun i=>y.inputs.getD i 0,fun d=>kV y.has (zJ (M.heads.map (xL 99)) (xL 99 d)),fun _=>0⟩
theorem Xx(cs:List Bs)(y:xQ)(hl:y.inputs.length=5)(hi:i<5):(aJ oF cs y).inp (yV i)=y.inputs.getD i 0:=by
 show tK y.inputs (zJ oF (yV i))=_;rw[B7 i hi];unfold tK;rw[tr ⟨by omega,by omega⟩,Int.toNat_natCast]
theorem zHY(M:yB)(y:xQ)(hl:y.inputs.length=5):Qa M.heads (zJC M y) (aJ oF (M.heads.map (xL 99)) y):=⟨fun _ hi=>Xx _ y hl hi,fun _ _=>rfl⟩
theorem rO{l:List Bs}{nm:Bs}(h:nm∈l):∃a:Nat,a<l.length/\zJ l nm=(a:Int)/\l.getD a []=nm:=by
 have h1:¬zJ l nm<0:=fun q=>(fJ nm l 0).1 q h;have h2:=fG l nm;refine⟨(zJ l nm).toNat,by omega,by omega,bU (by omega)⟩
theorem zHX(h:yH M)(v:FV):Qa M.heads v (aJ oF (M.heads.map (xL 99)) (zCN M v)):=by
 refine⟨fun i hi=>?_,fun d hd=>?_⟩
 ·rw[Xx _ (zCN M v) (by simp[zCN]) hi]
  show ((List.range 5).map v.inn).getD i 0=_;simp[List.getD,hi]
 ·show kV (M.heads.map v.has) (zJ (M.heads.map (xL 99)) (xL 99 d))=_
  obtain⟨a,ha,e1,e2⟩:=rO (l:=M.heads.map (xL 99)) (pd.2 ⟨d,hd,rfl⟩);rw[me]at ha
  have h4:∀x∈M.heads,x<4:=fun x hx=>by
   rw[h.heads]at hx;rcases(bT (M.rules.map vR.head) [] (x:=x)).1 hx with h1|h1
   ·cases h1
   ·obtain⟨r,hr,rfl⟩:=pd.1 h1;exact(h.rules r hr).head
  have e3:M.heads[a]=d:=by
   rw[ma,List.getElem?_map,pw ha]at e2;exact JS _ (h4 _ (f9 ha)) d (h4 d hd) e2
  rw[e1,oE (by omega) (by rw[me];omega),Int.toNat_natCast];simp[List.getD,ha,e3]
theorem gD(hi:i<5):jC (yI (yP M G)) i=mS (rK M i):=by
 unfold jC;rw[JO];simp[List.getD,hi]
theorem fA(M:yB)(G:Nat->GR):(yI (yP M G)).length=5:=by rw[JO];simp
theorem bO(h:i<3):mS (rK M i)=⟨yV i,false,M.lo i,M.hi i⟩:=by unfold mS rK;rw[tr h];rfl
theorem aG(h:¬i<3):mS (rK M i)=⟨yV i,true,0,0⟩:=by unfold mS rK;rw[tj h];rfl
theorem zCX(hv:ZD M v):dN (yI (yP M G)) M.heads.length (zCN M v):=by
 have hl:=fA M G;refine⟨by rw[hl];simp[zCN],by simp[zCN],fun i hi hn=>?_,fun i hi hn=>?_⟩
 ·rw[hl]at hi
  have e:(zCN M v).inputs.getD i 0=v.inn i:=by show ((List.range 5).map v.inn).getD i 0=_;simp[List.getD,hi]
  unfold xN at hn;rw[gD hi]at hn ⊢;by_cases h3:i<3
  ·rw[bO h3,e];exact hv.num i h3
  ·rw[aG h3]at hn;cases hn
 ·rw[hl]at hi
  have e:(zCN M v).inputs.getD i 0=v.inn i:=by show ((List.range 5).map v.inn).getD i 0=_;simp[List.getD,hi]
  unfold xN at hn;rw[gD hi]at hn;by_cases h3:i<3
  ·rw[bO h3]at hn;cases hn
  ·rw[e];exact hv.flag i (by omega) hi
theorem zCY{y:xQ}(hy:dN (yI (yP M G)) M.heads.length y):ZD M (zJC M y):=by
 have hl:=fA M G;refine⟨fun i h3=>?_,fun i h3 h5=>?_⟩
 ·have:=hy.num i (by omega) (by unfold xN;rw[gD (by omega),bO h3];rfl)
  rw[gD (by omega),bO h3]at this;exact this
 ·exact hy.flag i (by omega) (by unfold xN;rw[gD h5,aG (by omega)];rfl)
def Ki(M:yB)(i j:Nat):Prop:=i≠j/\(uU M i).head=(uU M j).head/\gA (zS (qV M)) i j=false/\gA (zS (qV M)) j i=false
theorem Vq(h:yH M)(hi:i<M.rules.length):(uU M i).head∈M.heads:=by
 rw[h.heads];exact(bT (M.rules.map vR.head) []).2 (.inr (pd.2 ⟨uU M i,fT hi,rfl⟩))
theorem BH(h:yH M)(hG:∀i,i<M.rules.length->iU (xJ M.heads (uU M i).head) (uU M i) (G i)){rs:List MX}(hr:rs.map Prod.fst=uT ((yI (yP M G)).map zX.name) ((vF (yP M G)).map Prod.fst) (yP M G))(i j:Nat) :
 Ue (yI (yP M G)) (vF (yP M G)).length rs (Xk (yP M G)) i j ↔ i<j/\j<M.rules.length/\Ki M i j/\∃v,ZD M v/\gM v (uU M i)=true/\gM v (uU M j)=true:=by
 have h8:=h.few;have hc:tH (yP M G):=zFQ (by rw[Z6 h hG]);obtain⟨hl,hat⟩:=KQ hc hr;rw[BF,me,List.length_range]at hl hat
 have hat2:∀k,k<M.rules.length->(jK rs k).1=qM oF (M.heads.map (xL 99)) (gX (uU M k) k (G k)):=fun k hk=>by
  rw[hat k hk,Df,bS h];congr 1
  simp[List.getD,hk]
 have hgr:Xk (yP M G)=zS (qV M):=by unfold Xk;rw[FU h]
 have hll:(vF (yP M G)).length=M.heads.length:=by rw[eV hc,bS h,me]
 have zK3:∀k,k<3->0<=zJ oF (yV k):=fun k hk=>by rw[B7 k (by omega)];omega
 have hco:∀d,d<4->zJ oF (xL 99 d)<0:=fun d hd=>by rw[qz d hd];decide
 have can:∀a b,a<M.rules.length->b<M.rules.length->(zBK (yI (yP M G)) M.heads.length (jK rs a).1 (jK rs b).1 ↔ ∃v,ZD M v/\gM v (uU M a)=true/\gM v (uU M b)=true):=fun a b ha hb=>by
  rw[hat2 a ha,hat2 b hb];constructor
  ·rintro⟨y,hy,h1,h2⟩
   have hE:=zHY M y (by rw[hy.inl,fA]);rw[QS h ha (hG a ha) zK3 hco hE]at h1;rw[QS h hb (hG b hb) zK3 hco hE]at h2;exact⟨_,zCY hy,h1,h2⟩
  ·rintro⟨v,hv,h1,h2⟩
   have hE:=zHX h v;refine⟨zCN M v,zCX hv,?_,?_⟩
   ·rw[QS h ha (hG a ha) zK3 hco hE];exact h1
   ·rw[QS h hb (hG b hb) zK3 hco hE];exact h2
 have riv:∀a b,a<M.rules.length->b<M.rules.length->(KA rs (zS (qV M)) a b=true ↔ (uU M a).head=(uU M b).head/\gA (zS (qV M)) a b=false/\gA (zS (qV M)) b a=false):=fun a b ha hb=>by
  unfold KA;rw[hat2 a ha,hat2 b hb,Vt (by omega) (by omega),Vt (by omega) (by omega)]
  have hcon:(qM oF (M.heads.map (xL 99)) (gX (uU M a) a (G a))).conc=(qM oF (M.heads.map (xL 99)) (gX (uU M b) b (G b))).conc ↔ (uU M a).head=(uU M b).head:=by
   show zJ (M.heads.map (xL 99)) (xL 99 (uU M a).head)=zJ (M.heads.map (xL 99)) (xL 99 (uU M b).head) ↔ _;obtain⟨p,-,e1,e2⟩:=rO (l:=M.heads.map (xL 99)) (pd.2 ⟨_,Vq h ha,rfl⟩);obtain⟨q,-,f1,f2⟩:=rO (l:=M.heads.map (xL 99)) (pd.2 ⟨_,Vq h hb,rfl⟩);constructor
   ·intro e
    have:p=q:=by omega
    rw[this,f2]at e2;exact(JS _ (ZX h hb) _ (ZX h ha) e2).symm
   ·intro e;rw[e]
  rw[mc,mj,hcon,mc];simp
 unfold Ue Ki;rw[hl,hgr,hll];constructor
 ·rintro⟨h1,h2,h3,h4⟩
  exact⟨h1,h2,⟨by omega,(riv i j (by omega) h2).1 h3⟩,(can i j (by omega) h2).1 h4⟩
 ·rintro⟨h1,h2,⟨-,h3⟩,h4⟩
  exact⟨h1,h2,(riv i j (by omega) h2).2 h3,(can i j (by omega) h2).2 h4⟩
structure FrG(M:yB)(G:Nat->GR):Prop where
 gr:∀i,i<M.rules.length->iU (xJ M.heads (uU M i).head) (uU M i) (G i)
 calm:tH (yP M G)
 mod:D0 (yP M G)
 good:∀x∈yP M G,oT x
 lines:∃us,mT (yP M G) us
end Go.Proofs.YtnbpdffdnphbeabGreatDoor
