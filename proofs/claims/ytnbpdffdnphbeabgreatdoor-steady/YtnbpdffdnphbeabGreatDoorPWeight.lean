import Derived.Test.YtnbpdffdnphbeabGreatDoorPut
namespace Go.Proofs.YtnbpdffdnphbeabGreatDoor
variable{cl:Bs}{x:Bs × Int}{a d:Int}{L:List (Nat × Bs)}{N:List zJ}{len i k n:Nat}{t:Nat × Bs}{u ts:yF}(s:Bs)(P:List PT)(w:Bs)
def gM(a b:Int × Int):Int × Int:=(a.1+b.1,if a.2<b.2 then b.2 else a.2)
def tK:Nat->yF->Int × Int
 | 0,_=>(0,0)
 | n+1,ts =>
   if 0<=uO ts tC then gM (tK n (ts.take (uO ts tC).toNat)) (tK n (ts.drop ((uO ts tC).toNat+1)))
   else if 0<=uO ts xW then gM (tK n (ts.take (uO ts xW).toNat)) (tK n (ts.drop ((uO ts xW).toNat+1)))
   else if yE (ts.getD 0 (0,[])).2=xE then ((tK n (ts.drop 1)).1,(tK n (ts.drop 1)).2+1)
   else if yE (ts.getD 0 (0,[])).2=yS then ((tK n ((ts.drop 1).take (ts.length-2))).1,(tK n ((ts.drop 1).take (ts.length-2))).2+1)
   else (1,0)
def Qf(r:yF)(nx:Bs):Bs:=match r with | []=>nx|s::_=>yE s.2
def Ew(p:Bs):yF->Bs
 | []=>p
 | t::r=>Ew (yE t.2) r
def Gb(p:Bs):yF->Bs
 | []=>p
 | t::r=>Gb t.2 r
def sD(p nx:Bs):Nat:=if p=[104,97,115] then 1 else if p∈tD\/nx∈tD then 2 else 3
def jJ:Bs->yF->Bs->List (Nat × Bs)
 | _,[],_=>[]
 | p,t::r,nx=>(if yE t.2=vC then [(sD p (Qf r nx),t.2)] else [])++jJ (yE t.2) r nx
theorem vf(u v:yF)(nx:Bs):Qf (u++v) nx=Qf u (Qf v nx):=by cases u <;> rfl
theorem JU(u v:yF)(nx:Bs):∀p,jJ p (u++v) nx=jJ p u (Qf v nx)++jJ (Ew p u) v nx:=by
 induction u with
 | nil=>intro p;rfl
 | cons t r ih=>intro p;rw[li,jJ,ih,jJ,Ew,vf,po]
def gj(c:Bs):Prop:=c≠[104,97,115]/\c ∉ tD
def rK(u:yF)(L:List (Nat × Bs)):Prop:=∀p nx,gj p->nx ∉ tD->jJ p u nx=L
theorem rK.join{v:yF}{L':List (Nat × Bs)}(hu:rK u L)(hv:rK v L')(ht:yE t.2≠vC)(hn:gj (yE t.2)):rK (u++t::v) (L++L'):=by
 intro p nx hp aX;rw[JU,show Qf (t::v) nx=yE t.2 from rfl,hu p _ hp hn.2,jJ,tj ht,lu,hv _ _ hn aX]
theorem rK.ahead(hu:rK u L)(ht:yE t.2≠vC)(hn:gj (yE t.2)):rK (t::u) L:=by
 intro p nx _ aX;rw[jJ,tj ht,lu,hu _ _ hn aX]
theorem rK.behind(hu:rK u L)(ht:yE t.2≠vC)(hn:gj (yE t.2)):rK (u++[t]) L:=by
 intro p nx hp _;rw[JU,show Qf [t] nx=yE t.2 from rfl,hu p _ hp hn.2,jJ,tj ht,jJ];simp
def Ex(x:zJ):List (Nat × Bs) :=
 if x.kind=5 then [(1,x.name)] else if x.kind=6 then [(3,x.name)] else if x.kind=7 then (2,x.name)::(if x.other=[] then [] else [(2,x.other)]) else []
def bK(N:List zJ):List (Nat × Bs):=N.flatMap Ex
theorem iT(N M:List zJ):bK (N++M)=bK N++bK M:=by simp[bK]
def rF:yF->List (Nat × Bs)
 | []=>[]
 | t::r=>(if yE t.2=vC then [(0,t.2)] else [])++rF r
def gI:yF->Nat
 | []=>0
 | t::r=>(if yE t.2=[43]\/yE t.2=[45] then 1 else 0)+gI r
def eD:Bs->yF->Bool
 | _,[]=>false
 | p,t::r=>(decide (yE t.2=[42])&&decide (9<qQ 0 p)) || eD t.2 r
theorem vh(u v:yF):rF (u++v)=rF u++rF v:=by
 induction u with
 | nil=>rfl
 | cons t r ih=>rw[li,rF,ih,rF,po]
theorem qw(u v:yF):gI (u++v)=gI u+gI v:=by
 induction u with
 | nil=>simp[gI]
 | cons t r ih=>rw[li,gI,ih,gI];omega
theorem Pm(u v:yF):∀p,eD p (u++v)=(eD p u || eD (Gb p u) v):=by
 induction u with
 | nil=>intro p;simp[eD,Gb]
 | cons t r ih=>intro p;rw[li,eD,ih,eD,Gb,Bool.or_assoc]
def Uq(x:yT):List (Nat × Bs):=if x.name=[] then [] else [(0,x.name)]
def jD(x:yT):Bool:=x.ak&&decide (9<x.num)
structure J4(v:yF)(S:List yT):Prop where
 needs:rF v=S.flatMap Uq
 count:gI v+1=S.length
 EZ:∀p,eD p v=S.any jD
 star:∀k,k<v.length->yE (v.getD k (0,[])).2=[42]->0<k/\yE (v.getD (k-1) (0,[])).2=vD
theorem J4.join{v:yF}{S S':List yT}(hu:J4 u S)(hv:J4 v S')(ht:yE t.2=[43]\/yE t.2=[45]):J4 (u++t::v) (S++S'):=by
 have h1:yE t.2≠vC:=by rcases ht with h|h <;> rw[h] <;> decide
 have h2:yE t.2≠[42]:=by rcases ht with h|h <;> rw[h] <;> decide
 refine⟨?_,?_,?_,?_⟩
 ·rw[vh,rF,tj h1,hu.needs,hv.needs,lk,lu]
 ·rw[qw,gI,tr ht,tm,<-hu.count,<-hv.count];omega
 ·intro p;rw[Pm,eD,hu.EZ,hv.EZ,ty h2,List.any_append];simp
 ·intro k hk h
  rcases Nat.lt_trichotomy k u.length with h3|h3|h3
  ·have e:∀i,i<u.length->(u++t::v).getD i (0,[])=u.getD i (0,[]):=λi hi=>by rw[List.getD,List.getD,mj hi]
   rw[e k h3]at h;obtain⟨h4,h5⟩:=hu.star k h3 h;exact⟨h4,by rw[e (k-1) (by omega)];exact h5⟩
  ·subst h3
   rw[List.getD,l8 (tg _)]at h;simp only[Nat.sub_self,dn,Option.getD_some]at h;exact x' h h2
  ·have e:∀i,u.length<i->(u++t::v).getD i (0,[])=v.getD (i-u.length-1) (0,[]):=λi hi=>by
    rw[List.getD,List.getD,l8 (by omega)];obtain⟨m,hm⟩:∃m,i-u.length=m+1:=⟨i-u.length-1,by omega⟩;rw[hm];rfl
   rw[e k h3]at h;obtain⟨h4,h5⟩:=hv.star (k-u.length-1) (by simp only[tm,pb]at hk;omega) h;exact⟨by omega,by rw[e (k-1) (by omega),show k-1-u.length-1=k-u.length-1-1 by omega];exact h5⟩
def jI(st:Bs):List Bs:=(List.range 43).filterMap λi=>if Az.getD (i*3) []=st then some (Az.getD (i*3+1) []) else none
theorem Vj(st cl:Bs)(n:Nat):∀i,i+n<=43->cl ∉ jI st->Qo st cl n i=[]:=by
 induction n with
 | zero=>intro i _ _;rfl
 | succ n ih =>
   intro i hi h;rw[Qo,tj,ih (i+1) (by omega) h];rintro⟨h1,h2⟩;refine h (List.mem_filterMap.2 ⟨i,me.2 (by omega),?_⟩);rw[tr h1,h2]
theorem Dj{st:Bs}{op:Int}(h1:st≠bI)(h2:st≠mM):uN st cl op=Qo st cl 43 0:=by
 unfold uN;simp only[h1,false_and,if_false,h2]
theorem mO{st:Bs}{op:Int}(h1:st≠bI)(h2:st≠mM)(h:cl ∉ jI st):uN st cl op=[]:=by
 rw[Dj h1 h2];exact Vj st cl 43 0 (by omega) h
theorem Di:jI mM=[tC,xW,vF,qM]:=by decide
theorem U0:jI bI=tD:=by decide
theorem aI(cl:Bs)(op:Int):uN mM cl op=if cl=vF/\op=0\/cl=qM/\0<op then [] else Qo mM cl 43 0:=by
 unfold uN;simp only[ite_self,true_and]
theorem Yu{op:Int}(h1:cl≠tC)(h2:cl≠xW)(h3:cl=vF->op=0)(h4:cl=qM->0<op):uN mM cl op=[]:=by
 rw[aI];split
 ·rfl
 ·rename_i h
  refine Vj _ _ 43 0 (by omega) ?_;rw[Di];simp only[pi,lq,df,h1,h2,false_or];rintro(e|e)
  ·exact h (.inl ⟨e,h3 e⟩)
  ·exact h (.inr ⟨e,h4 e⟩)
theorem Dm{op:Int}(h:cl ∉ tD):uN bI cl op=uN mM cl op:=by
 by_cases hc:cl=tC\/cl=xW\/cl=vF\/cl=qM
 ·unfold uN
  simp only[hc,and_self,dj,ite_self]
 ·have e1:uN bI cl op=Qo bI cl 43 0:=by
   unfold uN;simp only[hc,and_false,if_false];rw[tj (by intro h;exact M' h.1)]
  rw[e1,Vj _ _ 43 0 (by omega) (by rw[U0];exact h)];rw[Yu (λe=>hc (.inl e)) (λe=>hc (.inr (.inl e))) (λe=>x' (.inr (.inr (.inl e))) hc) (λe=>x' (.inr (.inr (.inr e))) hc)]
def sg:List Bs:=Gg++U9
theorem Yj:∀t∈sg,yE t=t/\yG t=4/\t≠B5/\t≠vC/\t≠vD:=by decide
theorem aU:(yG s=4/\s∈sg/\yE s=s)\/(yG s=2/\yE s=vC)\/(yG s=3/\yE s=vD)\/(yG s=1/\yE s=B5):=by
 unfold yG yE;rw[Ff,BA];split
 ·split
  ·exact .inr (.inr (.inr ⟨rfl,rfl⟩))
  ·split
   ·rename_i h
    refine .inl ⟨rfl,?_,rfl⟩;unfold qC at h;exact pj.2 (.inl (by simpa using h))
   ·exact .inr (.inl ⟨rfl,rfl⟩)
 ·split
  ·split
   ·exact .inr (.inr (.inr ⟨rfl,rfl⟩))
   ·exact .inr (.inr (.inl ⟨rfl,rfl⟩))
  ·split
   ·rename_i h
    refine .inl ⟨rfl,?_,rfl⟩;unfold vE at h;exact pj.2 (.inr (by simpa using h))
   ·exact .inr (.inr (.inr ⟨rfl,rfl⟩))
theorem Ia{s t:Bs}(ht:t∈sg):(yG s=4/\s=t) ↔ yE s=t:=by
 obtain⟨a,b,c,d,e⟩:=Yj t ht;constructor
 ·rintro⟨_,rfl⟩;exact a
 ·intro h
  rcases aU s with ⟨h1,_,h2⟩|⟨_,h2⟩|⟨_,h2⟩|⟨_,h2⟩
  ·exact⟨h1,h2.symm.trans h⟩
  ·exact x' (h.symm.trans h2) d
  ·exact x' (h.symm.trans h2) e
  ·exact x' (h.symm.trans h2) c
theorem Pr:yG s=2 ↔ yE s=vC:=by
 rcases aU s with ⟨h1,h3,h2⟩|⟨h1,h2⟩|⟨h1,h2⟩|⟨h1,h2⟩
 ·obtain⟨a,b,c,d,e⟩:=Yj s h3
  exact⟨λh=>M' (h1.symm.trans h),λh=>x' (h2.symm.trans h) d⟩
 ·exact⟨λ_=>h2,λ_=>h1⟩
 ·exact⟨λh=>M' (h1.symm.trans h),λh=>M' (h2.symm.trans h)⟩
 ·exact⟨λh=>M' (h1.symm.trans h),λh=>M' (h2.symm.trans h)⟩
theorem wO:yG s=3 ↔ yE s=vD:=by
 rcases aU s with ⟨h1,h3,h2⟩|⟨h1,h2⟩|⟨h1,h2⟩|⟨h1,h2⟩
 ·obtain⟨a,b,c,d,e⟩:=Yj s h3
  exact⟨λh=>M' (h1.symm.trans h),λh=>x' (h2.symm.trans h) e⟩
 ·exact⟨λh=>M' (h1.symm.trans h),λh=>M' (h2.symm.trans h)⟩
 ·exact⟨λ_=>h2,λ_=>h1⟩
 ·exact⟨λh=>M' (h1.symm.trans h),λh=>M' (h2.symm.trans h)⟩
def pp(ts:yF)(len:Nat):List PT:=ts.map (λt=>⟨yG t.2,t.2,kM t.2,t.1⟩)++[⟨0,[],0,len⟩]
theorem iN(ts:yF)(len:Nat):(pp ts len).length=ts.length+1:=by simp[pp]
def tA(ts:yF)(i:Nat):Bs:=(ts.getD i (0,[])).2
def cA(ts:yF)(i:Nat):Bs:=yE (tA ts i)
theorem V5(h:ts.length<=i):cA ts i=B5:=by
 unfold cA tA;rw[List.getD,List.getElem?_eq_none h];decide
theorem Ep(h:cA ts i≠B5):i<ts.length:=by
 rcases mc i ts.length with h1|h1
 ·exact h1
 ·exact x' (V5 h1) h
theorem bZ{t:Bs}(ht:t∈sg)(h:cA ts i=t):i<ts.length/\tA ts i=t :=
 ⟨Ep (by rw[h];exact(Yj t ht).2.2.1),((Ia ht).2 h).2⟩
theorem oQ(h:i<ts.length):yB (pp ts len) i=⟨yG (tA ts i),tA ts i,kM (tA ts i),(ts.getD i (0,[])).1⟩:=by
 unfold yB pp tA;rw[List.getD,mj (by simpa using h)];simp[List.getD,h]
theorem aT:yB (pp ts len) ts.length=⟨0,[],0,len⟩:=by
 unfold yB pp;simp[List.getD]
theorem Xk(h:i<=ts.length){t:Bs}(ht:t∈sg):tN (pp ts len) t i false=decide (cA ts i=t):=by
 unfold tN;rcases mc i ts.length with h1|h1
 ·rw[oQ h1]
  simp only[di,bm,<-Bool.decide_and];exact decide_eq_decide.2 (Ia ht)
 ·obtain rfl:i=ts.length:=by omega
  rw[aT,V5 (tg _)];have h2:=(Yj t ht).2.2.1;have h3:¬B5=t:=λe=>h2 e.symm;rw[ty h3];rfl
theorem VW(h:i<=ts.length):qH (pp ts len) 2 i false=decide (cA ts i=vC):=by
 unfold qH;rcases mc i ts.length with h1|h1
 ·rw[oQ h1]
  simp only[di,bm];exact decide_eq_decide.2 (Pr _)
 ·obtain rfl:i=ts.length:=by omega
  rw[aT,V5 (tg _)];rfl
theorem XE(h:i<=ts.length):qH (pp ts len) 3 i false=decide (cA ts i=vD):=by
 unfold qH;rcases mc i ts.length with h1|h1
 ·rw[oQ h1]
  simp only[di,bm];exact decide_eq_decide.2 (wO _)
 ·obtain rfl:i=ts.length:=by omega
  rw[aT,V5 (tg _)];rfl
section steps
variable {ts:yF} {len i:Nat}
theorem cE(h:i<=ts.length){t:Bs}(ht:t∈sg):(cA ts i=t/\i<ts.length/\zD (pp ts len) t (i,false)=(true,(i+1,false)))\/(cA ts i≠t/\zD (pp ts len) t (i,false)=(false,(i,false))):=by
 by_cases hc:cA ts i=t
 ·refine .inl ⟨hc,(bZ ht hc).1,?_⟩
  simp only[zD,Xk h ht,hc,decide_true,Xe]
 ·refine .inr ⟨hc,?_⟩
  simp only[zD,Xk h ht,hc,dr,Xe]
theorem gU(h:i<=ts.length){t:Bs}(ht:t∈sg):(cA ts i=t/\i<ts.length/\zR (pp ts len) t (i,false)=(i+1,false))\/(cA ts i≠t/\zR (pp ts len) t (i,false)=(i,true)):=by
 by_cases hc:cA ts i=t
 ·refine .inl ⟨hc,(bZ ht hc).1,?_⟩
  simp only[zR,Xk h ht,hc,decide_true,Xe,Bool.not_true]
 ·refine .inr ⟨hc,?_⟩
  simp only[zR,Xk h ht,hc,dr,Xe,di]
theorem dZ(h:i<=ts.length):(cA ts i=vC/\i<ts.length/\zI (pp ts len) (i,false)=(tA ts i,(i+1,false)))\/(cA ts i≠vC/\zI (pp ts len) (i,false)=([],(i,true))):=by
 by_cases hc:cA ts i=vC
 ·have hi:i<ts.length:=Ep (by rw[hc];decide)
  refine .inl ⟨hc,hi,?_⟩;simp only[zI,VW h,hc,decide_true,Xe,tk,oQ hi,Bool.not_true]
 ·refine .inr ⟨hc,?_⟩
  simp only[zI,VW h,hc,dr,Xe,tk,pz,di]
theorem Sd{s:Bs}(h:yE s=vD):kM s=qQ 0 s:=by unfold kM;rw[tr ((wO s).2 h)]
theorem Zt(h:i<=ts.length):(cA ts i=vD/\i<ts.length/\yI (pp ts len) (i,false)=(qQ 0 (tA ts i),(i+1,false)))\/(cA ts i≠vD/\yI (pp ts len) (i,false)=(0,(i,true))):=by
 by_cases hc:cA ts i=vD
 ·have hi:i<ts.length:=Ep (by rw[hc];decide)
  refine .inl ⟨hc,hi,?_⟩;simp only[yI,XE h,hc,decide_true,Xe,tk,oQ hi,Bool.not_true,Sd hc]
 ·refine .inr ⟨hc,?_⟩
  simp only[yI,XE h,hc,dr,Xe,tk,pz,di]
theorem Xr(h:i<=ts.length)(b:Bool):jM (pp ts len) (i,b)=decide (cA ts i=vD):=by
 rw[<-XE (len:=len) h];simp only[jM,qH,di,bm];rfl
theorem Fb:∀t∈tD,t∈sg:=by decide
theorem L6(h:i<=ts.length):(cA ts i∈tD/\i<ts.length/\tA ts i=cA ts i/\vK (pp ts len) (i,false)=(cA ts i,(i+1,false)))\/(cA ts i ∉ tD/\vK (pp ts len) (i,false)=([],(i,false))):=by
 by_cases hc:cA ts i∈tD
 ·obtain⟨h1,h2⟩:=bZ (Fb _ hc) rfl
  refine .inl ⟨hc,h1,h2,?_⟩;unfold vK;have e:(yB (pp ts len) i).s=cA ts i:=by rw[oQ h1];exact h2
  simp only[e];rcases cE (len:=len) h (Fb _ hc) with ⟨_,_,h3⟩|⟨h3,_⟩
  ·simp only[List.contains_iff_mem.2 hc,h3]
  ·exact x' rfl h3
 ·refine .inr ⟨hc,?_⟩
  unfold vK
  have e:tD.contains (yB (pp ts len) i).s=false:=by
   rw[Bool.eq_false_iff];intro h1;have h2:=List.contains_iff_mem.1 h1;rcases mc i ts.length with h3|h3
   ·rw[oQ h3]at h2
    have h4:tA ts i∈tD:=h2;exact hc (by unfold cA;rw[(Yj _ (Fb _ h4)).1];exact h4)
   ·obtain rfl:i=ts.length:=by omega
    rw[aT]at h2;exact M' (show ([]:Bs)∈tD from h2)
  simp only[e]
theorem Cy(t:Bs)(i:Nat):zD P t (i,true)=(false,(i,true)):=rfl
theorem rS(t:Bs)(i:Nat):zR P t (i,true)=(i,true):=rfl
theorem Dn(i:Nat):zI P (i,true)=([],(i,true)):=rfl
theorem Qc(i:Nat):yI P (i,true)=(0,(i,true)):=rfl
end steps
def FA(ts:yF)(len:Nat)(i:Nat)(st:Bs)(op:Int):Int:=fE len (ts.drop i) st op
theorem uV{st af:Bs}{op ag:Int}(h:i<ts.length)(hc:cA ts i=cl)(h1:uN st cl op=af)(h2:af≠[])(h3:opn cl op=ag):FA ts len i st op=FA ts len (i+1) af ag:=by
 unfold FA;subst hc h1 h3;rw[zN ts i h,fE];exact tj h2
theorem nB{st:Bs}{op:Int}(h0:i<=ts.length)(h1:uN st (cA ts i) op=[])(h2:i<ts.length\/st≠pK):FA ts len i st op=((yB (pp ts len) i).p:Int):=by
 unfold FA;rcases mc i ts.length with h|h
 ·rw[zN ts i h,fE,oQ h]
  show (if uN st (cA ts i) op=[] then _ else _)=_;rw[tr h1]
 ·obtain rfl:i=ts.length:=by omega
  rw[List.drop_length,fE,tj (by rcases h2 with h2|h2;omega;exact h2),aT]
theorem PZ{op:Int}(h:cA ts i ∉ tD):FA ts len i bI op=FA ts len i mM op:=by
 unfold FA;rcases mc i ts.length with h1|h1
 ·rw[zN ts i h1,fE,fE]
  have e:uN bI (yE (ts.getD i (0,[])).2) op=uN mM (yE (ts.getD i (0,[])).2) op:=Dm h;rw[e]
 ·rw[pf h1,fE,fE];rfl
abbrev mG(c:Bs):Prop:=c≠tC/\c≠xW/\c≠vF/\c≠yS/\c≠qM/\c≠xE
def BU:yF->Int->Int
 | [],op=>op
 | t::r,op=>BU r (opn (yE t.2) op)
theorem KW(u v:yF):∀op,BU (u++v) op=BU v (BU u op):=by
 induction u with
 | nil=>intro op;rfl
 | cons t r ih=>intro op;exact ih _
theorem pY(u v:yF):∀i op at',tI w (u++v) i op at'=tI w v (i+u.length) (BU u op) (tI w u i op at'):=by
 induction u with
 | nil=>intro i op a;rfl
 | cons t r ih=>intro i op a;rw[li,tI,ih,tI,BU,pb];congr 1;omega
theorem xj{c:Bs}(h:mG c)(op:Int):opn c op=op:=by unfold opn;rw[tj h.2.2.2.1,tj h.2.2.1]
theorem O8(u:yF)(h:∀t∈u,mG (yE t.2)):∀op,BU u op=op:=by
 induction u with
 | nil=>intro op;rfl
 | cons t r ih=>intro op;rw[BU,xj (h t (bw ..)),ih (λx hx=>h x (py _ hx))]
theorem dR(hw:w=tC\/w=xW)(u:yF)(h:∀t∈u,mG (yE t.2)):∀i op at',tI w u i op at'=at':=by
 induction u with
 | nil=>intro i op a;rfl
 | cons t r ih =>
   intro i op a;have h1:=h t (bw ..);rw[tI,tj,ih (λx hx=>h x (py _ hx))];rintro⟨_,h2⟩;rcases hw with rfl|rfl
   ·exact h1.1 h2
   ·exact h1.2.1 h2
theorem Zr(op:Int):opn yS op=op+1:=tr rfl
theorem Zq(op:Int):opn vF op=op-1:=by unfold opn;rw[i6,tr rfl]
theorem Zs(op:Int):opn xE op=op:=by unfold opn;rw[i6,i6]
theorem Qa(op:Int):opn tC op=op:=by unfold opn;rw[i6,i6]
theorem oK(op:Int):opn xW op=op:=by unfold opn;rw[i6,i6]
theorem O'(h:uO ts tC=k):pO (n+1) ts=((pO n (ts.take k)).1++[32,111,114,32]++(pO n (ts.drop (k+1))).1,2)/\mB (n+1) ts=(mB n (ts.take k)&&mB n (ts.drop (k+1))):=by
 rw[pO,mB,h,u',u'];exact⟨rfl,rfl⟩
theorem S7(h0:uO ts tC = -1)(h:uO ts xW=k):pO (n+1) ts=((if (pO n (ts.take k)).2=2 then BW (pO n (ts.take k)).1 else (pO n (ts.take k)).1)++[32,97,110,100,32]++(if (pO n (ts.drop (k+1))).2=2 then BW (pO n (ts.drop (k+1))).1 else (pO n (ts.drop (k+1))).1),1)/\mB (n+1) ts=(mB n (ts.take k)&&mB n (ts.drop (k+1))):=by
 constructor
 ·rw[pO,h0,h,i6,tr (nf k)];rfl
 ·rw[mB,h0,h,i6,tr (nf k)];rfl
theorem mW(r:Bs)(st:qX):zH (s++[32]++r) st=zH r (zH s st):=by
 obtain⟨o,il⟩:=st;cases il <;> simp[zH,EL]
def kU:yF->qX->qX
 | [],st=>st
 | t::r,st=>kU r (zH t.2 st)
theorem iM(u v:yF):∀st,kU (u++v) st=kU v (kU u st):=by
 induction u with
 | nil=>intro st;rfl
 | cons t r ih=>intro st;exact ih _
theorem Uo(r:yF):∀(s:Bs) (i:Nat) (st:qX),zH (Bc s (i+1) r) st=kU r (zH s st):=by
 induction r with
 | nil=>intro s i st;rfl
 | cons t r ih=>intro s i st;rw[Bc,u',ih,mW,kU]
theorem oI(h:u≠[])(st:qX):kU u st=zH (cM u) st:=by
 cases u with
 | nil=>exact x' rfl h
 | cons t r=>rw[cM,Bc,i6,lu,Uo,kU]
theorem X4(st:qX):zH (BW s) st=zH vF (zH s (zH yS st)):=by
 rw[<-mW,<-mW];simp[BW,vF,yS]
theorem Zw{M:List zJ}{a:Nat}(h:a<N.length):vY (N++M) a=vY N a:=by
 unfold vY;rw[List.getD,mj h];rfl
abbrev lf(N:List zJ)(a:Int):Int:=(vY N a.toNat).left
abbrev rg(N:List zJ)(a:Int):Int:=(vY N a.toNat).right
def IB(x:zJ)(u:yF):Prop :=
 (x.kind=4/\∃t,u=[t]/\yE t.2=[97,108,119,97,121,115]) \/
 (x.kind=5/\∃t s,u=[t,s]/\yE t.2=[104,97,115]/\yE s.2=vC/\x.name=s.2) \/
 (x.kind=6/\∃t,u=[t]/\yE t.2=vC/\x.name=t.2) \/
 (x.kind=7/\∃t m s,u=[t,m,s]/\yE t.2=vC/\x.name=t.2/\m.2∈tD/\x.mark=m.2/\((yE s.2=vD/\x.other=[]/\x.num=qQ 0 s.2)\/(yE s.2=vC/\x.other=s.2/\s.2≠[])))
def IA(N:List zJ)(a:Int)(u:yF):Prop:=0<=a/\a<N.length/\(4<=(vY N a.toNat).kind)/\(∀st,rT (vY N a.toNat) st=kU u st)/\IB (vY N a.toNat) u
def Hx(N:List zJ)(a:Int):Prop:=0<=a/\a<N.length/\(vY N a.toNat).kind=3/\lf N a<a
def Aq(kd:Int)(N:List zJ)(a:Int):Prop:=0<=a/\a<N.length/\(vY N a.toNat).kind=kd/\lf N a<a/\rg N a<a
def KE(u:yF):Prop:=u≠[]/\∀t∈u,mG (yE t.2)
def Dk(x:Bs × Int):Bs × Int:=([110,111,116,32]++(if 0<x.2 then BW x.1 else x.1),0)
def Aw(x y:Bs × Int):Bs × Int:=((if x.2=2 then BW x.1 else x.1)++[32,97,110,100,32]++(if y.2=2 then BW y.1 else y.1),1)
def ET(x y:Bs × Int):Bs × Int:=(x.1++[32,111,114,32]++y.1,2)
structure Cl(R:Nat->yF->Bs × Int->List zJ->Int->Prop):Prop where
 test:∀k u N a,KE u->IA N a u->R k u (cM u,0) N a
 neg:∀k t u x N a,yE t.2=xE->Hx N a->R 0 u x N (lf N a)->R k (t::u) (Dk x) N a
 br:∀k o u c x N a,yE o.2=yS->yE c.2=vF->R 2 u x N a->R k (o::(u++[c])) x N a
 and:∀k u t v x y N a,1<=k->yE t.2=xW->Aq 2 N a->R 1 u x N (lf N a)->R 0 v y N (rg N a)->R k (u++t::v) (Aw x y) N a
 or:∀k u t v x y N a,2<=k->yE t.2=tC->Aq 1 N a->R 2 u x N (lf N a)->R 1 v y N (rg N a)->R k (u++t::v) (ET x y) N a
def Gr(k:Nat)(u:yF)(x:Bs × Int)(N:List zJ)(a:Int):Prop:=∀R,Cl R->R k u x N a
theorem fP:Cl Gr:={
 test:=λk u N a h1 h2 _ c=>c.test k u N a h1 h2
 neg:=λk t u x N a h1 h2 h _ c=>c.neg k t u x N a h1 h2 (h _ c)
 br:=λk o u e x N a h1 h2 h _ c=>c.br k o u e x N a h1 h2 (h _ c)
 and:=λk u t v x y N a h1 h2 h3 h h' _ c=>c.and k u t v x y N a h1 h2 h3 (h _ c) (h' _ c)
 or:=λk u t v x y N a h1 h2 h3 h h' _ c=>c.or k u t v x y N a h1 h2 h3 (h _ c) (h' _ c) }
theorem Gr.ind{R:Nat->yF->Bs × Int->List zJ->Int->Prop}
 (test:∀k u N a,KE u->IA N a u->R k u (cM u,0) N a)
 (neg:∀k t u x N a,yE t.2=xE->Hx N a->Gr 0 u x N (lf N a)->R 0 u x N (lf N a)->R k (t::u) (Dk x) N a)
 (br:∀k o u c x N a,yE o.2=yS->yE c.2=vF->Gr 2 u x N a->R 2 u x N a->R k (o::(u++[c])) x N a)
 (and:∀k u t v x y N a,1<=k->yE t.2=xW->Aq 2 N a->Gr 1 u x N (lf N a)->Gr 0 v y N (rg N a)->R 1 u x N (lf N a)->R 0 v y N (rg N a)->R k (u++t::v) (Aw x y) N a)
 (or:∀k u t v x y N a,2<=k->yE t.2=tC->Aq 1 N a->Gr 2 u x N (lf N a)->Gr 1 v y N (rg N a)->R 2 u x N (lf N a)->R 1 v y N (rg N a)->R k (u++t::v) (ET x y) N a) (h:Gr k u x N a):R k u x N a :=
 (h (λk u x N a=>Gr k u x N a/\R k u x N a) {
  test:=λk u N a h1 h2=>⟨fP.test k u N a h1 h2,test k u N a h1 h2⟩
  neg:=λk t u x N a h1 h2 h=>⟨fP.neg k t u x N a h1 h2 h.1,neg k t u x N a h1 h2 h.1 h.2⟩
  br:=λk o u c x N a h1 h2 h=>⟨fP.br k o u c x N a h1 h2 h.1,br k o u c x N a h1 h2 h.1 h.2⟩
  and:=λk u t v x y N a h1 h2 h3 h h'=>⟨fP.and k u t v x y N a h1 h2 h3 h.1 h'.1,and k u t v x y N a h1 h2 h3 h.1 h'.1 h.2 h'.2⟩
  or:=λk u t v x y N a h1 h2 h3 h h'=>⟨fP.or k u t v x y N a h1 h2 h3 h.1 h'.1,or k u t v x y N a h1 h2 h3 h.1 h'.1 h.2 h'.2⟩ }).2
section gr
variable {k:Nat} {u:yF} {x:Bs × Int} {N:List zJ} {a:Int}
theorem Gr.le(h:Gr k u x N a){k':Nat}(hk:k<=k'):Gr k' u x N a:=by
 refine Gr.ind (R:=λk u x N a=>∀k',k<=k'->Gr k' u x N a) ?_ ?_ ?_ ?_ ?_ h k' hk
 ·intro k u N a h1 h2 k' _;exact fP.test _ _ _ _ h1 h2
 ·intro k t u x N a h1 h2 h3 _ k' _;exact fP.neg _ _ _ _ _ _ h1 h2 h3
 ·intro k o u c x N a h1 h2 h3 _ k' _;exact fP.br _ _ _ _ _ _ _ h1 h2 h3
 ·intro k u t v x y N a h1 h2 h3 h4 h5 _ _ k' hk;exact fP.and _ _ _ _ _ _ _ _ (tu h1 hk) h2 h3 h4 h5
 ·intro k u t v x y N a h1 h2 h3 h4 h5 _ _ k' hk;exact fP.or _ _ _ _ _ _ _ _ (tu h1 hk) h2 h3 h4 h5
theorem Gr.op(h:Gr k u x N a)(op:Int):BU u op=op:=by
 refine Gr.ind (R:=λ_ u _ _ _=>∀op,BU u op=op) ?_ ?_ ?_ ?_ ?_ h op
 ·intro k u N a h1 _ op;exact O8 u h1.2 op
 ·intro k t u x N a h1 _ _ ih op;rw[BU,h1,Zs,ih]
 ·intro k o u c x N a h1 h2 _ ih op;rw[BU,h1,Zr,KW,ih,BU,h2,Zq,BU];omega
 ·intro k u t v x y N a _ h2 _ _ _ aC aB op;rw[KW,aC,BU,h2,oK,aB]
 ·intro k u t v x y N a _ h2 _ _ _ aC aB op;rw[KW,aC,BU,h2,Qa,aB]
theorem Gr.inner(h:Gr k u x N a)(w:Bs)(hw:w=tC\/w=xW)(i:Nat)(op at':Int)(ho:0<op):tI w u i op at'=at':=by
 refine Gr.ind (R:=λ_ u _ _ _=>∀(i:Nat) (op at':Int),0<op->tI w u i op at'=at') ?_ ?_ ?_ ?_ ?_ h i op at' ho
 ·intro k u N a h1 _ i op at' _;exact dR w hw u h1.2 i op at'
 ·intro k t u x N a h1 _ _ ih i op at' ho
  rw[tI,h1,Zs,tj (by intro e;omega),ih _ _ _ ho]
 ·intro k o u c x N a h1 h2 h3 ih i op at' ho
  rw[tI,h1,Zr,tj (by intro e;omega),pY,ih _ _ _ (by omega),h3.op,tI,h2,Zq,tj (by intro e;omega),tI]
 ·intro k u t v x y N a _ h2 _ h4 _ aC aB i op at' ho
  rw[pY,aC _ _ _ ho,h4.op,tI,h2,oK,tj (by intro e;omega),aB _ _ _ ho]
 ·intro k u t v x y N a _ h2 _ h4 _ aC aB i op at' ho
  rw[pY,aC _ _ _ ho,h4.op,tI,h2,Qa,tj (by intro e;omega),aB _ _ _ ho]
theorem Yz(hw:w=tC\/w=xW){o c:Nat × Bs}(h1:yE o.2=yS)(h2:yE c.2=vF)(h3:Gr k u x N a)(i:Nat)(at':Int):tI w (o::(u++[c])) i 0 at'=at':=by
 rw[tI,h1,Zr,tj (by intro e;omega),pY,h3.inner w hw _ _ _ (by omega),h3.op,tI,h2,Zq,tj,tI];rintro⟨_,e⟩;rcases hw with rfl|rfl
 ·exact M' e
 ·exact M' e
theorem Gr.iz(h:Gr 0 u x N a)(w:Bs)(hw:w=tC\/w=xW)(i:Nat)(at':Int):tI w u i 0 at'=at':=by
 refine Gr.ind (R:=λk u _ _ _=>k=0->∀(i:Nat) (at':Int),tI w u i 0 at'=at') ?_ ?_ ?_ ?_ ?_ h rfl i at'
 ·intro k u N a h1 _ _ i at';exact dR w hw u h1.2 i 0 at'
 ·intro k t u x N a h1 _ _ ih _ i at'
  rw[tI,h1,Zs,tj,ih rfl];rintro⟨_,e⟩;rcases hw with rfl|rfl
  ·exact M' e
  ·exact M' e
 ·intro k o u c x N a h1 h2 h3 _ _ i at';exact Yz w hw h1 h2 h3 i at'
 ·intro k u t v x y N a h1 _ _ _ _ _ _ e;omega
 ·intro k u t v x y N a h1 _ _ _ _ _ _ e;omega
theorem Gr.oh(h:Gr k u x N a)(hk:k<=1)(i:Nat)(at':Int):tI tC u i 0 at'=at':=by
 refine Gr.ind (R:=λk u _ _ _=>k<=1->∀(i:Nat) (at':Int),tI tC u i 0 at'=at') ?_ ?_ ?_ ?_ ?_ h hk i at'
 ·intro k u N a h1 _ _ i at';exact dR tC (.inl rfl) u h1.2 i 0 at'
 ·intro k t u x N a h1 _ _ ih _ i at'
  rw[tI,h1,Zs,tj (by rintro⟨_,e⟩;exact M' e),ih (by decide)]
 ·intro k o u c x N a h1 h2 h3 _ _ i at';exact Yz tC (.inl rfl) h1 h2 h3 i at'
 ·intro k u t v x y N a _ h2 _ h4 _ aC aB _ i at'
  rw[pY,aC (by decide),h4.op,tI,h2,oK,tj (by rintro⟨_,e⟩;exact M' e),aB (by decide)]
 ·intro k u t v x y N a h1 _ _ _ _ _ _ e;omega
theorem Gr.pos(h:Gr k u x N a):0<u.length:=by
 refine Gr.ind (R:=λ_ u _ _ _=>0<u.length) ?_ ?_ ?_ ?_ ?_ h
 ·intro k u N a h1 _;exact List.length_pos_iff.2 h1.1
 ·intro k t u x N a _ _ _ _;simp
 ·intro k o u c x N a _ _ _ _;simp
 ·intro k u t v x y N a _ _ _ _ _ _ _;simp only[tm,pb];omega
 ·intro k u t v x y N a _ _ _ _ _ _ _;simp only[tm,pb];omega
theorem Gr.bound(h:Gr k u x N a):0<=a/\a<N.length:=by
 refine Gr.ind (R:=λ_ _ _ N a=>0<=a/\a<(N.length:Int)) ?_ ?_ ?_ ?_ ?_ h
 ·intro k u N a _ h;exact⟨h.1,h.2.1⟩
 ·intro k t u x N a _ h _ _;exact⟨h.1,h.2.1⟩
 ·intro k o u c x N a _ _ _ ih;exact ih
 ·intro k u t v x y N a _ _ h _ _ _ _;exact⟨h.1,h.2.1⟩
 ·intro k u t v x y N a _ _ h _ _ _ _;exact⟨h.1,h.2.1⟩
theorem Gr.EB(h:Gr k u x N a):∀t∈u,yE t.2≠qM:=by
 refine Gr.ind (R:=λ_ u _ _ _=>∀t∈u,yE t.2≠qM) ?_ ?_ ?_ ?_ ?_ h
 ·intro k u N a h1 _ t ht;exact(h1.2 t ht).2.2.2.2.1
 ·intro k o u x N a h1 _ _ ih t ht
  rcases pi.1 ht with rfl|ht
  ·rw[h1];decide
  ·exact ih t ht
 ·intro k o u c x N a h1 h2 _ ih t ht
  rcases pi.1 ht with rfl|ht
  ·rw[h1];decide
  ·rcases pj.1 ht with ht|ht
   ·exact ih t ht
   ·obtain rfl:=pr.1 ht;rw[h2];decide
 ·intro k u o v x y N a _ h2 _ _ _ aC aB t ht
  rcases pj.1 ht with ht|ht
  ·exact aC t ht
  ·rcases pi.1 ht with rfl|ht
   ·rw[h2];decide
   ·exact aB t ht
 ·intro k u o v x y N a _ h2 _ _ _ aC aB t ht
  rcases pj.1 ht with ht|ht
  ·exact aC t ht
  ·rcases pi.1 ht with rfl|ht
   ·rw[h2];decide
   ·exact aB t ht
end gr
theorem I8(h:Gr k u x N a)(n:Nat)(hn:u.length<n):pO n u=x/\mB n u=true:=by
 refine Gr.ind (R:=λ_ u x _ _=>∀n,u.length<n->pO n u=x/\mB n u=true) ?_ ?_ ?_ ?_ ?_ h n hn
 ·intro k u N a h _ n hn
  obtain⟨n,rfl⟩:∃m,n=m+1:=⟨n-1,by omega⟩;have e1:uO u tC = -1:=dR tC (.inl rfl) u h.2 0 0 (-1);have e2:uO u xW = -1:=dR xW (.inr rfl) u h.2 0 0 (-1)
  have hp:mG (yE (u.getD 0 (0,[])).2):=by
   obtain⟨h1,h2⟩:=h
   cases u with
   | nil=>exact x' rfl h1
   | cons t r=>exact h2 t (bw ..)
  have hl:0<u.length:=List.length_pos_iff.2 h.1;rw[pO,mB,e1,e2,i6,i6,tj hp.2.2.2.2.2,tj hp.2.2.2.1,i6,i6,tj hp.2.2.2.2.2,tj hp.2.2.2.1];exact⟨rfl,tz hl⟩
 ·intro k t u x N a h1 h2 h3 ih n hn
  obtain⟨n,rfl⟩:∃m,n=m+1:=⟨n-1,by omega⟩;have hW:Gr 0 (t::u) (Dk x) N a:=fP.neg _ _ _ _ _ _ h1 h2 h3;have e1:uO (t::u) tC = -1:=hW.iz tC (.inl rfl) 0 (-1);have e2:uO (t::u) xW = -1:=hW.iz xW (.inr rfl) 0 (-1);have hc:yE ((t::u).getD 0 (0,[])).2=xE:=h1;obtain⟨i1,i2⟩:=ih n (by simp at hn;omega);rw[pO,mB,e1,e2,i6,i6,tr hc,i6,i6,tr hc];simp only[List.drop_succ_cons,List.drop_zero,i1,i2,Dk,pb];exact⟨trivial,by simp⟩
 ·intro k o u c x N a h1 h2 h3 ih n hn
  obtain⟨n,rfl⟩:∃m,n=m+1:=⟨n-1,by omega⟩;have e1:uO (o::(u++[c])) tC = -1:=Yz tC (.inl rfl) h1 h2 h3 0 (-1);have e2:uO (o::(u++[c])) xW = -1:=Yz xW (.inr rfl) h1 h2 h3 0 (-1);have hc:yE ((o::(u++[c])).getD 0 (0,[])).2=yS:=h1;have ae:¬yE ((o::(u++[c])).getD 0 (0,[])).2=xE:=by rw[hc];decide
  have hp:=h3.pos;obtain⟨i1,i2⟩:=ih n (by simp at hn;omega);rw[pO,mB,e1,e2,i6,i6,tj ae,tr hc,i6,i6,tj ae,tr hc];have e3:((o::(u++[c])).drop 1).take ((o::(u++[c])).length-2)=u:=by simp
  rw[e3,i1,i2];refine⟨rfl,?_⟩;simp;omega
 ·intro k u t v x y N a h1 h2 h3 h4 h5 aC aB n hn
  obtain⟨n,rfl⟩:∃m,n=m+1:=⟨n-1,by omega⟩;have hW:Gr 1 (u++t::v) (Aw x y) N a:=fP.and _ _ _ _ _ _ _ _ (tg _) h2 h3 h4 h5;have e1:uO (u++t::v) tC = -1:=hW.oh (tg _) 0 (-1)
  have e2:uO (u++t::v) xW=u.length:=by
   unfold uO;rw[pY,h4.op,tI,h2,oK,tr ⟨rfl,rfl⟩,h5.iz xW (.inr rfl)];omega
  obtain⟨x1,x2⟩:=S7 (n:=n) e1 e2;have hl:(u++t::v).length=u.length+1+v.length:=by simp;omega
  obtain⟨i1,i2⟩:=aC n (by omega);obtain⟨j1,j2⟩:=aB n (by omega);have t1:(u++t::v).take u.length=u:=by simp
  have t2:(u++t::v).drop (u.length+1)=v:=by simp
  rw[t1,t2,i1,j1]at x1;rw[t1,t2,i2,j2]at x2;exact⟨x1,x2⟩
 ·intro k u t v x y N a h1 h2 h3 h4 h5 aC aB n hn
  obtain⟨n,rfl⟩:∃m,n=m+1:=⟨n-1,by omega⟩
  have e2:uO (u++t::v) tC=u.length:=by
   unfold uO;rw[pY,h4.op,tI,h2,Qa,tr ⟨rfl,rfl⟩,h5.oh (tg _)];omega
  obtain⟨x1,x2⟩:=O' (n:=n) e2;have hl:(u++t::v).length=u.length+1+v.length:=by simp;omega
  obtain⟨i1,i2⟩:=aC n (by omega);obtain⟨j1,j2⟩:=aB n (by omega);have t1:(u++t::v).take u.length=u:=by simp
  have t2:(u++t::v).drop (u.length+1)=v:=by simp
  rw[t1,t2,i1,j1]at x1;rw[t1,t2,i2,j2]at x2;exact⟨x1,x2⟩
theorem Xq{M:List zJ}(h:a<N.length):a<((N++M).length:Int):=by simp only[tm];omega
theorem Gr.ext(h:Gr k u x N a)(M:List zJ):Gr k u x (N++M) a:=by
 refine Gr.ind (R:=λk u x N a=>Gr k u x (N++M) a) ?_ ?_ ?_ ?_ ?_ h
 ·intro k u N a h1 h
  have e:vY (N++M) a.toNat=vY N a.toNat:=Zw (by have:=h.1;have:=h.2.1;omega);refine fP.test _ _ _ _ h1 ⟨h.1,Xq h.2.1,?_⟩;rw[e];exact h.2.2
 ·intro k t u x N a h1 h _ ih
  have e:vY (N++M) a.toNat=vY N a.toNat:=Zw (by have:=h.1;have:=h.2.1;omega);have el:lf (N++M) a=lf N a:=by unfold lf;rw[e]
  exact fP.neg _ _ _ _ _ _ h1 ⟨h.1,Xq h.2.1,by rw[e];exact h.2.2.1,by rw[el];exact h.2.2.2⟩ (by rw[el];exact ih)
 ·intro k o u c x N a h1 h2 _ ih;exact fP.br _ _ _ _ _ _ _ h1 h2 ih
 ·intro k u t v x y N a h1 h2 h _ _ aC aB
  have e:vY (N++M) a.toNat=vY N a.toNat:=Zw (by have:=h.1;have:=h.2.1;omega);have el:lf (N++M) a=lf N a:=by unfold lf;rw[e]
  have er:rg (N++M) a=rg N a:=by unfold rg;rw[e]
  exact fP.and _ _ _ _ _ _ _ _ h1 h2 ⟨h.1,Xq h.2.1,by rw[e];exact h.2.2.1,by rw[el];exact h.2.2.2.1,by rw[er];exact h.2.2.2.2⟩ (by rw[el];exact aC) (by rw[er];exact aB)
 ·intro k u t v x y N a h1 h2 h _ _ aC aB
  have e:vY (N++M) a.toNat=vY N a.toNat:=Zw (by have:=h.1;have:=h.2.1;omega);have el:lf (N++M) a=lf N a:=by unfold lf;rw[e]
  have er:rg (N++M) a=rg N a:=by unfold rg;rw[e]
  exact fP.or _ _ _ _ _ _ _ _ h1 h2 ⟨h.1,Xq h.2.1,by rw[e];exact h.2.2.1,by rw[el];exact h.2.2.2.1,by rw[er];exact h.2.2.2.2⟩ (by rw[el];exact aC) (by rw[er];exact aB)
theorem Gr.kind(h:Gr k u x N a):((vY N a.toNat).kind=1/\x.2=2)\/((vY N a.toNat).kind=2/\x.2=1)\/(¬(vY N a.toNat).kind=1/\¬(vY N a.toNat).kind=2/\x.2=0):=by
 refine Gr.ind (R:=λ_ _ x N a=>((vY N a.toNat).kind=1/\x.2=2)\/((vY N a.toNat).kind=2/\x.2=1)\/(¬(vY N a.toNat).kind=1/\¬(vY N a.toNat).kind=2/\x.2=0)) ?_ ?_ ?_ ?_ ?_ h
 ·intro k u N a _ h;have h3:=h.2.2.1;exact .inr (.inr ⟨by omega,by omega,rfl⟩)
 ·intro k t u x N a _ h _ _;have h3:=h.2.2.1;exact .inr (.inr ⟨by omega,by omega,rfl⟩)
 ·intro k o u c x N a _ _ _ ih;exact ih
 ·intro k u t v x y N a _ _ h _ _ _ _;exact .inr (.inl ⟨h.2.2.1,rfl⟩)
 ·intro k u t v x y N a _ _ h _ _ _ _;exact .inl ⟨h.2.2.1,rfl⟩
theorem F9(hr:Gr k u x N a){f:Nat->qX->qX}(hf:∀st,f a.toNat st=zH x.1 st)(st:qX):Ze N f a.toNat st=zH (if x.2=2 then BW x.1 else x.1) st:=by
 unfold Ze;rcases hr.kind with ⟨h1,h2⟩|⟨h1,h2⟩|⟨h1,_,h2⟩
 ·rw[tr h1,tr h2,hf,X4]
 ·rw[i6,i6,hf]
 ·rw[tj h1,i6,hf]
theorem Mf(hr:Gr k u x N a){f:Nat->qX->qX}(hf:∀st,f a.toNat st=zH x.1 st)(st:qX):Vb N f a.toNat st=zH (if 0<x.2 then BW x.1 else x.1) st:=by
 unfold Vb;rcases hr.kind with ⟨h1,h2⟩|⟨h1,h2⟩|⟨h1,h3,h2⟩
 ·rw[tr (.inl h1),u',hf,X4]
 ·rw[tr (.inr h1),u',hf,X4]
 ·rw[i6,i6,hf]
theorem E5(h:Gr k u x N a)(m:Nat)(st:qX)(hm:a.toNat<m):vJ N m a.toNat st=zH x.1 st:=by
 refine Gr.ind (R:=λ_ _ x N a=>∀(m:Nat) (st:qX),a.toNat<m->vJ N m a.toNat st=zH x.1 st) ?_ ?_ ?_ ?_ ?_ h m st hm
 ·intro k u N a hk h m st hm
  obtain⟨m,rfl⟩:∃j,m=j+1:=⟨m-1,by omega⟩;have h3:=h.2.2.1;rw[vJ,i6,i6,i6,h.2.2.2.1,oI hk.1]
 ·intro k t u x N a _ h hg ih m st hm
  obtain⟨m,rfl⟩:∃j,m=j+1:=⟨m-1,by omega⟩;have h3:=h.2.2.1;have hb:=hg.bound;have hl:=h.2.2.2;rw[vJ,i6,i6,tr h3,Mf hg (λst=>ih m st (by omega)),<-mW,Dk];rfl
 ·intro k o u c x N a _ _ _ ih;exact ih
 ·intro k u t v x y N a _ _ h hu hv aC aB m st hm
  obtain⟨m,rfl⟩:∃j,m=j+1:=⟨m-1,by omega⟩;obtain⟨h1,h2,h3,h4,h5⟩:=h;have hb:=hu.bound;have hc:=hv.bound;rw[vJ,i6,tr h3,F9 hv (λst=>aB m st (by omega)),F9 hu (λst=>aC m st (by omega)),<-mW,<-mW,Aw];simp[xW]
 ·intro k u t v x y N a _ _ h hu hv aC aB m st hm
  obtain⟨m,rfl⟩:∃j,m=j+1:=⟨m-1,by omega⟩;obtain⟨h1,h2,h3,h4,h5⟩:=h;have hb:=hu.bound;have hc:=hv.bound;rw[vJ,tr h3,aC m _ (by omega),aB m _ (by omega),<-mW,<-mW,ET];simp[tC]
theorem Xj{c:UInt8}(h:so c=2):48<=c.toNat/\c.toNat<=57:=by
 unfold so XK at h;split at h
 ·omega
 ·split at h
  ·omega
  ·split at h <;> omega
def Js:Nat->List Nat->Nat
 | a,[]=>a
 | a,d::r=>Js (10*a+d) r
def Yv(s:Bs):List Nat:=s.map λc=>c.toNat-48
theorem GP(a:Int)(c:UInt8)(r:Bs):qQ a (c::r)=qQ (10*a+((c.toNat:Int)-48)) r:=rfl
theorem NB:∀(a:Nat),(∀c∈s,so c=2)->qQ a s=Js a (Yv s):=by
 induction s with
 | nil=>intro a _;rfl
 | cons c r ih =>
   intro a h;have h1:=Xj (h c (bw ..));have h2:=ih (10*a+(c.toNat-48)) (λx hx=>h x (py _ hx));unfold Yv at h2 ⊢;rw[GP,cf,Js,<-h2];congr 1;omega
theorem PI(s:List Nat):∀(a:Nat),(∀d∈s,d<=9)->Js a s+1<=(a+1)*10 ^ s.length:=by
 induction s with
 | nil=>intro a _;simp[Js]
 | cons d r ih =>
   intro a h;have h1:=h d (bw ..);rw[Js,pb,Nat.pow_succ];have h2:=ih (10*a+d) (λx hx=>h x (py _ hx));refine tu h2 ?_;have h3:(10*a+d+1)<=(a+1)*10:=by omega
   have h4:=Nat.mul_le_mul_right (10 ^ r.length) h3;rw[Nat.mul_assoc]at h4;rw[Nat.mul_comm (10 ^ r.length) 10];exact h4
theorem Gz(h:∀c∈s,so c=2):∀d∈Yv s,d<=9:=by
 intro d hd;unfold Yv at hd;obtain⟨c,hc,rfl⟩:=pd.1 hd;have h1:=Xj (h c hc);omega
theorem P4{u d:Nat}(h:1<=u)(hd:d<10):Lib.decDigits (10*u+d)=Lib.decDigits u++[UInt8.ofNat (48+d)]:=by
 rw[Lib.decDigits,dif_neg (by omega),show (10*u+d)/10=u by omega,show (10*u+d)%10=d by omega]
theorem ki{c:UInt8}(h:48<=c.toNat):UInt8.ofNat (48+(c.toNat-48))=c:=by
 rw[show 48+(c.toNat-48)=c.toNat by omega];simp
theorem NY(s:List Nat):∀(a:Nat),1<=a->(∀d∈s,d<=9)->Lib.decDigits (Js a s)=Lib.decDigits a++s.map (λd=>UInt8.ofNat (48+d)):=by
 induction s with
 | nil=>intro a _ _;simp[Js]
 | cons d r ih =>
   intro a ha h;have h1:=h d (bw ..);rw[Js,ih _ (by omega) (λx hx=>h x (py _ hx)),P4 ha (by omega)];simp
theorem qs(h:∀c∈s,so c=2):(Yv s).map (λd=>UInt8.ofNat (48+d))=s:=by
 induction s with
 | nil=>rfl
 | cons c r ih =>
   have h1:=Xj (h c (bw ..));have h2:=ih (λx hx=>h x (py _ hx));unfold Yv at h2 ⊢;rw[cf,cf,h2,ki h1.1]
def BF(s:Bs):Prop:=s≠[]/\(so (s.getD 0 0)=2->∀c∈s,so c=2)
theorem KX{s:Bs}(h:BF s)(hc:yE s=vD):(0<=qQ 0 s/\qQ 0 s<=9999)/\Lib.itoa (qQ 0 s)=s:=by
 have hk:=(wO s).2 hc;unfold yG at hk;split at hk
 ·split at hk
  ·exact M' hk
  ·split at hk <;> exact M' hk
 ·split at hk
  ·rename_i _ h2
   split at hk
   ·exact M' hk
   ·rename_i h3
    have hd:=h.2 h2;have e:=NB s 0 hd;have hl:=PI (Yv s) 0 (Gz s hd);have ar:(Yv s).length=s.length:=(by simp[Yv]);rw[ar]at hl;have h4:s.length<=4:=(by omega);have h5:10 ^ s.length<=10 ^ 4:=Nat.pow_le_pow_right (by decide) h4;refine⟨⟨by rw[show (0:Int)=((0:Nat):Int) from rfl,e];omega,by rw[show (0:Int)=((0:Nat):Int) from rfl,e];omega⟩,?_⟩;rw[show (0:Int)=((0:Nat):Int) from rfl,e,Lib.itoa,i6,fm];have hb:=qs s hd;have hle:=Gz s hd
    cases hs:s with
    | nil=>exact x' hs h.1
    | cons c r =>
      rw[hs]at hd hb hle h3;have h6:=Xj (hd c (bw ..));have ed:Yv (c::r)=(c.toNat-48)::Yv r:=by unfold Yv;rw[cf]
      rw[ed]at hb hle ⊢;rw[Js];generalize hz:c.toNat-48=z at hb hle ⊢;by_cases hz0:z=0
      ·have hc0:c=48:=by
        apply UInt8.toNat_inj.1;show c.toNat=48;omega
       have hr:r=[]:=by
        cases r with
        | nil=>rfl
        | cons x y=>exact x' (Or.inr ⟨by simp,by simpa using hc0⟩) h3
       subst hr;rw[hz0,hc0];show Lib.decDigits 0=[48];rw[Lib.decDigits,dif_pos (by omega)];rfl
      ·rw[NY (Yv r) _ (by omega) (λx hx=>hle x (py _ hx)),Lib.decDigits,dif_pos (by have:=hle z (bw ..);omega),show 10*0+z=z by omega]
       rw[cf]at hb;exact hb
  ·split at hk <;> exact M' hk
theorem zv(k:Int)(l:Bs):∀c∈l.take (pX k l),so c=k:=by
 induction l with
 | nil=>intro c h;simp at h
 | cons x r ih =>
   intro c h;rw[pX]at h;split at h
   ·rename_i hx
    rw[List.take_succ_cons]at h;rcases pi.1 h with rfl|h
    ·exact hx
    ·exact ih c h
   ·simp at h
theorem yz(n:Nat):∀(l:Bs) (p:Nat),∀t∈uX n l p,BF t.2:=by
 induction n with
 | zero=>intro l p t h;simp[uX]at h
 | succ n ih =>
   intro l p t h;rw[uX]at h;split at h
   ·simp at h
   ·split at h
    ·exact ih _ _ t h
    ·rename_i h0 _
     rcases pi.1 h with rfl|h
     ·cases l with
      | nil=>exact x' rfl h0
      | cons c r =>
        have hp:=sK (c::r);obtain⟨m,hm⟩:∃m,uP (c::r)=m+1:=⟨uP (c::r)-1,by omega⟩;simp only[hm,List.take_succ_cons];refine⟨by simp,?_⟩;intro hs;have ai:so c=2:=hs
        have e:m=pX 2 r:=by
         unfold uP at hm;simp only[List.getD_cons_zero,ai,List.drop_succ_cons,List.drop_zero]at hm;rw[i6]at hm;omega
        intro x hx;rcases pi.1 hx with rfl|hx
        ·exact ai
        ·exact zv 2 r x (by rw[<-e];exact hx)
     ·exact ih _ _ t h
def oW(ts:yF):Prop:=∀t∈ts,BF t.2
theorem JB(l:Bs):oW (xI l 0):=yz _ _ _
theorem oW.at'(h:oW ts)(hi:i<ts.length):BF (tA ts i):=by
 unfold tA;rw[List.getD,pm hi];exact h _ (dq hi)
theorem qy:∀c∈tD,mG c/\c.isEmpty=false:=by decide
def bB:Bs:=[102,97,99,116]
def KM:Bs:=[104,97,115]
def E0:Bs:=[116,104,97,110]
def ZA:Bs:=[97,108,119,97,121,115]
theorem Ib(i:Nat):vK P (i,true)=([],(i,true)):=by
 unfold vK;split <;> rfl
def LO(x:zJ)(u:yF):Prop:=(4<=x.kind/\x.kind<=7)/\(0<=x.num/\x.num<=9999)/\(∀st,rT x st=kU u st)/\IB x u
abbrev TT(ts:yF)(i:Nat):Nat × Bs:=ts.getD i (0,[])
theorem Dh:jI bB=[xE,yS,ZA,KM,vC]:=by decide
theorem ve:jI KM=[vC]:=by decide
theorem De:jI E0=[vC,vD]:=by decide
theorem O9{c:Bs}{op:Int}(h:c∈tD):uN bI c op=E0/\opn c op=op:=by
 simp only[tD,pi,lq,df]at h;rcases h with rfl|rfl|rfl|rfl|rfl|rfl <;> exact⟨rfl,rfl⟩
def NM(ts:yF)(len i:Nat)(op:Int)(r:zJ × St):Prop :=
 (r.2.2=true/\FA ts len i bB op=((yB (pp ts len) r.2.1).p:Int)) \/
 (r.2.2=false/\i<r.2.1/\r.2.1<=ts.length/\FA ts len i bB op=FA ts len r.2.1 mM op/\∃u,ts.drop i=u++ts.drop r.2.1/\KE u/\LO r.1 u/\rK u (Ex r.1))
theorem wN:∀c∈tD,c≠vC/\c≠[104,97,115]:=by decide
theorem Vc{p nx:Bs}(hp:p≠[104,97,115])(h:p∈tD\/nx∈tD):sD p nx=2:=by unfold sD;rw[tj hp,tr h]
theorem OL{p nx:Bs}(hp:gj p)(h:nx ∉ tD):sD p nx=3:=by unfold sD;rw[tj hp.1,tj (by rintro(h' | h');exact hp.2 h';exact h h')]
theorem S4(aO:oW ts)(h:i<=ts.length)(op:Int)(hn:cA ts i≠xE)(ho:cA ts i≠yS):NM ts len i op (xH (pp ts len) (i,false)):=by
 rcases cE (len:=len) h (t:=ZA) (by decide) with ⟨hc,hi,e⟩|⟨hc,e⟩
 ·have hw:=(bZ (by decide) hc).2
  have e':xH (pp ts len) (i,false)=(⟨4,0,0,[],[],[],0⟩,(i+1,false)):=by
   unfold ZA at e;simp only[xH,e]
  rw[e'];refine .inr ⟨rfl,mh _,hi,uV hi hc rfl (by decide) rfl,[TT ts i],zN ts i hi,⟨by simp,?_⟩,⟨by simp,by simp,?_,.inl ⟨rfl,_,rfl,hc⟩⟩,?_⟩
  ·intro t ht;obtain rfl:=pr.1 ht
   show mG (cA ts i);rw[hc];decide
  ·intro st;show zH _ st=zH (tA ts i) st;rw[hw];rfl
  ·intro p nx _ _
   have h8:yE (TT ts i).2=ZA:=hc;rw[jJ,h8,i6,jJ];rfl
 unfold ZA at e;rcases cE (len:=len) h (t:=KM) (by decide) with ⟨aF,hi,e2⟩|⟨aF,e2⟩
 ·have hw:=(bZ (by decide) aF).2
  unfold KM at e2;have hf:FA ts len i bB op=FA ts len (i+1) KM op:=uV hi aF rfl (by decide) rfl;rcases dZ (len:=len) (show i+1<=ts.length from hi) with ⟨aA,aL,e3⟩|⟨aA,e3⟩
  ·have e':xH (pp ts len) (i,false)=(⟨5,0,0,tA ts (i+1),[],[],0⟩,(i+1+1,false)):=by
    simp only[xH,e,e2,e3]
   rw[e'];refine .inr ⟨rfl,(by show i<i+1+1;omega),aL,hf.trans (uV aL aA rfl (by decide) rfl),[TT ts i,TT ts (i+1)],?_,⟨by simp,?_⟩,⟨by simp,by simp,?_,.inr (.inl ⟨rfl,_,_,rfl,aF,aA,rfl⟩)⟩,?_⟩
   ·rw[zN ts i hi,zN ts (i+1) aL];rfl
   ·intro t ht
    simp only[pi,lq,df]at ht;rcases ht with rfl|rfl
    ·show mG (cA ts i);rw[aF];decide
    ·show mG (cA ts (i+1));rw[aA];decide
   ·intro st;show zH _ (zH _ st)=zH (tA ts (i+1)) (zH (tA ts i) st);rw[hw];rfl
   ·intro p nx _ _
    have h8:yE (TT ts i).2=KM:=aF;have h9:yE (TT ts (i+1)).2=vC:=aA;rw[jJ,h8,i6,jJ,h9,tr rfl,jJ];show []++([(sD KM nx,tA ts (i+1))]++[])=_;rw[show sD KM nx=1 from tr rfl];rfl
  ·have e':(xH (pp ts len) (i,false)).2=(i+1,true):=by
    simp only[xH,e,e2,e3]
   refine .inl ⟨by rw[e'],?_⟩;rw[e',hf];exact nB hi (mO (by decide) (by decide) (by rw[ve];simpa using aA)) (.inr (by decide))
 unfold KM at e2;rcases dZ (len:=len) h with ⟨aA,aL,e3⟩|⟨aA,e3⟩
 ·have hf:FA ts len i bB op=FA ts len (i+1) bI op:=uV aL aA rfl (by decide) rfl
  rcases L6 (len:=len) (show i+1<=ts.length from aL) with ⟨aH,aa,aQ,e4⟩|⟨aH,e4⟩
  ·obtain⟨n1,n2⟩:=O9 (op:=op) aH
   obtain⟨q1,q2⟩:=qy _ aH;have aV:FA ts len i bB op=FA ts len (i+1+1) E0 op:=hf.trans (uV aa rfl n1 (by decide) n2);have aY:i+1+1<=ts.length:=aa;rcases Zt (len:=len) aY with ⟨aN,aZ,e6⟩|⟨aN,e6⟩
   ·have e5:=Xr (len:=len) aY false
    rw[tz aN]at e5
    have e':xH (pp ts len) (i,false)=(⟨7,0,0,tA ts i,cA ts (i+1),[],qQ 0 (tA ts (i+1+1))⟩,(i+1+1+1,false)):=by
     simp only[xH,e,e2,e3,e4,q2,e5,e6]
    obtain⟨v1,v2⟩:=KX (aO.at' aZ) aN;rw[e'];refine .inr ⟨rfl,(by show i<i+1+1+1;omega),aZ,aV.trans (uV aZ aN rfl (by decide) rfl),[TT ts i,TT ts (i+1),TT ts (i+1+1)],?_,⟨by simp,?_⟩,⟨by simp,v1,?_,.inr (.inr (.inr ⟨rfl,_,_,_,rfl,aA,rfl,(by show tA ts (i+1)∈tD;rw[aQ];exact aH),aQ.symm,.inl ⟨aN,rfl,rfl⟩⟩))⟩,?_⟩
    ·rw[zN ts i aL,zN ts (i+1) aa,zN ts (i+1+1) aZ];rfl
    ·intro t ht
     simp only[pi,lq,df]at ht;rcases ht with rfl|rfl|rfl
     ·show mG (cA ts i);rw[aA];decide
     ·exact q1
     ·show mG (cA ts (i+1+1));rw[aN];decide
    ·intro st
     show jR (qQ 0 (tA ts (i+1+1))) (zH (cA ts (i+1)) (zH (tA ts i) st))=zH (tA ts (i+1+1)) (zH (tA ts (i+1)) (zH (tA ts i) st));rw[jR,v2,aQ]
    ·intro p nx hp _
     have h7:yE (TT ts i).2=vC:=aA;have h8:yE (TT ts (i+1)).2≠vC:=(wN _ aH).1;have h9:yE (TT ts (i+1+1)).2=vD:=aN;rw[jJ,h7,tr rfl,jJ,tj h8,jJ,h9,i6,jJ];show [(sD p (cA ts (i+1)),tA ts i)]++([]++([]++[]))=_;rw[Vc hp.1 (.inr aH)];rfl
   ·have e5:=Xr (len:=len) aY false
    rw[ty aN]at e5;rcases dZ (len:=len) aY with ⟨aW,aS,e7⟩|⟨aW,e7⟩
    ·have e':xH (pp ts len) (i,false)=(⟨7,0,0,tA ts i,cA ts (i+1),tA ts (i+1+1),0⟩,(i+1+1+1,false)):=by
      simp only[xH,e,e2,e3,e4,q2,e5,e7]
     have ao:(tA ts (i+1+1)).isEmpty=false:=by
      have:=(aO.at' aS).1
      cases hx:tA ts (i+1+1) with
      | nil=>exact x' hx this
      | cons a b=>rfl
     rw[e'];refine .inr ⟨rfl,(by show i<i+1+1+1;omega),aS,aV.trans (uV aS aW rfl (by decide) rfl),[TT ts i,TT ts (i+1),TT ts (i+1+1)],?_,⟨by simp,?_⟩,⟨by simp,by simp,?_,.inr (.inr (.inr ⟨rfl,_,_,_,rfl,aA,rfl,(by show tA ts (i+1)∈tD;rw[aQ];exact aH),aQ.symm,.inr ⟨aW,rfl,(aO.at' aS).1⟩⟩))⟩,?_⟩
     ·rw[zN ts i aL,zN ts (i+1) aa,zN ts (i+1+1) aS];rfl
     ·intro t ht
      simp only[pi,lq,df]at ht;rcases ht with rfl|rfl|rfl
      ·show mG (cA ts i);rw[aA];decide
      ·exact q1
      ·show mG (cA ts (i+1+1));rw[aW];decide
     ·intro st
      show rT ⟨7,0,0,tA ts i,cA ts (i+1),tA ts (i+1+1),0⟩ st=zH (tA ts (i+1+1)) (zH (tA ts (i+1)) (zH (tA ts i) st));rw[aQ];unfold rT;simp only[ao];rfl
     ·intro p nx hp _
      have h7:yE (TT ts i).2=vC:=aA;have h8:yE (TT ts (i+1)).2≠vC:=(wN _ aH).1;have h9:yE (TT ts (i+1+1)).2=vC:=aW;rw[jJ,h7,tr rfl,jJ,tj h8,jJ,h9,tr rfl,jJ];show [(sD p (cA ts (i+1)),tA ts i)]++([]++([(sD (cA ts (i+1)) nx,tA ts (i+1+1))]++[]))=(2,tA ts i)::(if tA ts (i+1+1)=[] then [] else [(2,tA ts (i+1+1))]);rw[Vc hp.1 (.inr aH),Vc (wN _ aH).2 (.inl aH),tj (aO.at' aS).1];rfl
    ·have e':(xH (pp ts len) (i,false)).2=(i+1+1,true):=by
      simp only[xH,e,e2,e3,e4,q2,e5,e7]
     refine .inl ⟨by rw[e'],?_⟩;rw[e',aV];exact nB aY (mO (by decide) (by decide) (by rw[De];simp[aN,aW])) (.inr (by decide))
  ·have e':xH (pp ts len) (i,false)=(⟨6,0,0,tA ts i,[],[],0⟩,(i+1,false)):=by
    simp only[xH,e,e2,e3,e4,List.isEmpty_nil]
   rw[e'];refine .inr ⟨rfl,mh _,aL,hf.trans (PZ aH),[TT ts i],zN ts i aL,⟨by simp,?_⟩,⟨by simp,by simp,?_,.inr (.inr (.inl ⟨rfl,_,rfl,aA,rfl⟩))⟩,?_⟩
   ·intro t ht;obtain rfl:=pr.1 ht
    show mG (cA ts i);rw[aA];decide
   ·intro st;rfl
   ·intro p nx hp hx
    have h7:yE (TT ts i).2=vC:=aA;rw[jJ,h7,tr rfl,jJ];show [(sD p nx,tA ts i)]++[]=_;rw[OL hp hx];rfl
 ·have e':(xH (pp ts len) (i,false)).2=(i,true):=by
   simp only[xH,e,e2,e3,Ib,List.isEmpty_nil]
  refine .inl ⟨by rw[e'],?_⟩;rw[e'];exact nB h (mO (by decide) (by decide) (by rw[Dh];simp[hn,ho,hc,aF,aA])) (.inr (by decide))
theorem Zv(N:List zJ)(z:zJ):vY (N++[z]) N.length=z:=by
 unfold vY;simp[List.getD]
def CX(z:zJ)(a:Int):Prop :=
 (z.kind=1->0<=z.left/\z.left<a/\0<=z.right/\z.right<a) /\
 (z.kind=2->0<=z.left/\z.left<a/\0<=z.right/\z.right<a) /\
 (z.kind=3->0<=z.left/\z.left<a) /\
 (¬z.kind=1->¬z.kind=2->¬z.kind=3->(4<=z.kind/\z.kind<=7)/\0<=z.num/\z.num<=9999)
theorem qZ.add{z:zJ}(h:qZ N)(hz:CX z N.length):qZ (N++[z]):=by
 intro a ha;rcases mc a N.length with h1|h1
 ·rw[Zw h1];exact h a h1
 ·have e:a=N.length:=by rw[tm,pu]at ha;omega
  subst e;rw[Zv];exact hz
theorem aR:qZ []:=by intro a ha;exact x' ha (by simp)
def eE(u:yF)(y:Int × Int):Prop:=∀n,u.length<n->tK n u=y
theorem PU(h:KE u):eE u (1,0):=by
 intro n hn;obtain⟨n,rfl⟩:∃m,n=m+1:=⟨n-1,by omega⟩;have e1:uO u tC = -1:=dR tC (.inl rfl) u h.2 0 0 (-1);have e2:uO u xW = -1:=dR xW (.inr rfl) u h.2 0 0 (-1)
 have hp:mG (yE (u.getD 0 (0,[])).2):=by
  obtain⟨h1,h2⟩:=h
  cases u with
  | nil=>exact x' rfl h1
  | cons t r=>exact h2 t (bw ..)
 rw[tK,e1,e2,i6,i6,tj hp.2.2.2.2.2,tj hp.2.2.2.1]
theorem NH{y:Int × Int}(h1:yE t.2=xE)(hW:Gr 0 (t::u) x N a)(hy:eE u y):eE (t::u) (y.1,y.2+1):=by
 intro n hn;obtain⟨n,rfl⟩:∃m,n=m+1:=⟨n-1,by omega⟩;have e1:uO (t::u) tC = -1:=hW.iz tC (.inl rfl) 0 (-1);have e2:uO (t::u) xW = -1:=hW.iz xW (.inr rfl) 0 (-1);have hc:yE ((t::u).getD 0 (0,[])).2=xE:=h1;rw[tK,e1,e2,i6,i6,tr hc];simp only[List.drop_succ_cons,List.drop_zero,hy n (by simp at hn;omega)]
theorem Lq{o c:Nat × Bs}{y:Int × Int}(h1:yE o.2=yS)(h2:yE c.2=vF)(h3:Gr k u x N a)(hy:eE u y):eE (o::(u++[c])) (y.1,y.2+1):=by
 intro n hn;obtain⟨n,rfl⟩:∃m,n=m+1:=⟨n-1,by omega⟩;have e1:uO (o::(u++[c])) tC = -1:=Yz tC (.inl rfl) h1 h2 h3 0 (-1);have e2:uO (o::(u++[c])) xW = -1:=Yz xW (.inr rfl) h1 h2 h3 0 (-1);have hc:yE ((o::(u++[c])).getD 0 (0,[])).2=yS:=h1;have ae:¬yE ((o::(u++[c])).getD 0 (0,[])).2=xE:=by rw[hc];decide
 rw[tK,e1,e2,i6,i6,tj ae,tr hc];have e3:((o::(u++[c])).drop 1).take ((o::(u++[c])).length-2)=u:=by simp
 rw[e3,hy n (by simp at hn;omega)]
theorem NG{v:yF}{y:Bs × Int}{b:Int}{p q:Int × Int}(h2:yE t.2=xW)(h4:Gr 1 u x N a)(h5:Gr 0 v y N b)(hp:eE u p)(hq:eE v q):eE (u++t::v) (gM p q):=by
 intro n hn;obtain⟨n,rfl⟩:∃m,n=m+1:=⟨n-1,by omega⟩
 have e1:uO (u++t::v) tC = -1:=by
  unfold uO;rw[pY,h4.op,tI,h2,oK,tj (by rintro⟨_,h⟩;exact M' h),h5.oh (by decide),h4.oh (tg _)]
 have e2:uO (u++t::v) xW=u.length:=by
  unfold uO;rw[pY,h4.op,tI,h2,oK,tr ⟨rfl,rfl⟩,h5.iz xW (.inr rfl)];omega
 have hl:(u++t::v).length=u.length+1+v.length:=by simp;omega
 have t1:(u++t::v).take u.length=u:=by simp
 have t2:(u++t::v).drop (u.length+1)=v:=by simp
 rw[tK,e1,e2,i6,tr (nf _),fm,t1,t2,hp n (by omega),hq n (by omega)]
theorem Lr{v:yF}{y:Bs × Int}{b:Int}{p q:Int × Int}(h2:yE t.2=tC)(h4:Gr 2 u x N a)(h5:Gr 1 v y N b)(hp:eE u p)(hq:eE v q):eE (u++t::v) (gM p q):=by
 intro n hn;obtain⟨n,rfl⟩:∃m,n=m+1:=⟨n-1,by omega⟩
 have e2:uO (u++t::v) tC=u.length:=by
  unfold uO;rw[pY,h4.op,tI,h2,Qa,tr ⟨rfl,rfl⟩,h5.oh (tg _)];omega
 have hl:(u++t::v).length=u.length+1+v.length:=by simp;omega
 have t1:(u++t::v).take u.length=u:=by simp
 have t2:(u++t::v).drop (u.length+1)=v:=by simp
 rw[tK,e2,tr (nf _),fm,t1,t2,hp n (by omega),hq n (by omega)]
def Wt(q:GS)(d:Int)(q':GS)(u:yF):Prop :=
 ∃y L,eE u y/\0<=y.2/\q'.tests=q.tests+y.1/\(q.dep<=q'.dep/\d+y.2<=q'.dep/\(q'.dep=q.dep\/q'.dep=d+y.2))/\rK u L/\bK q'.nd=bK q.nd++L
def BQ(ts:yF)(len k i:Nat)(op d:Int)(q:GS)(r:Int × GS):Prop :=
 (r.2.s.2=true/\FA ts len i bB op=((yB (pp ts len) r.2.s.1).p:Int)) \/
 (r.2.s.2=false/\i<r.2.s.1/\r.2.s.1<=ts.length/\FA ts len i bB op=FA ts len r.2.s.1 mM op/\(∃M,r.2.nd=q.nd++M)/\qZ r.2.nd /\
  (1<=k->cA ts r.2.s.1≠xW)/\(2<=k->cA ts r.2.s.1≠tC) /\
  ∃u x,Gr k u x r.2.nd r.1/\ts.drop i=u++ts.drop r.2.s.1/\Wt q d r.2 u)
theorem mP(item:GS->Int × GS)(tok:Bs)(kind:Int)(k:Nat)(left:Int)(q:GS)(h:q.s.2=true):(jK P item tok kind k left q).2.s=q.s:=by
 cases k with
 | zero=>rfl
 | succ k =>
   obtain⟨⟨i,f⟩,nd,te,de⟩:=q;obtain rfl:f=true:=h;rw[jK];rfl
structure zG2(tok:Bs)(kind:Int)(j:Nat):Prop where
 kw:tok∈sg
 next:∀op,uN mM tok op=bB
 opn:∀op,opn tok op=op
 node:∀a l r,0<=l->l<a->0<=r->r<a->CX ⟨kind,l,r,[],[],[],0⟩ a
 make:∀N u t v x y l r,yE t.2=tok->l<(N.length:Int)->r<(N.length:Int)->Gr (j+1) u x (N++[⟨kind,l,r,[],[],[],0⟩]) l->Gr j v y (N++[⟨kind,l,r,[],[],[],0⟩]) r ->
  ∃z,Gr (j+1) (u++t::v) z (N++[⟨kind,l,r,[],[],[],0⟩]) N.length
 wt:∀u t v x y N a b p q,yE t.2=tok->Gr (j+1) u x N a->Gr j v y N b->eE u p->eE v q->eE (u++t::v) (gM p q)
 gj:tok≠vC/\gj tok
 kind:kind=1\/kind=2
 oz:∀c,c≠tok->(1<=j->c≠xW)->(1<=j+1->c≠xW)/\(2<=j+1->c≠tC)
theorem B4(kind l r:Int)(N:List zJ)(hl:l<(N.length:Int))(hr:r<(N.length:Int)):Aq kind (N++[⟨kind,l,r,[],[],[],0⟩]) N.length/\lf (N++[⟨kind,l,r,[],[],[],0⟩]) N.length=l/\rg (N++[⟨kind,l,r,[],[],[],0⟩]) N.length=r:=by
 have e:vY (N++[⟨kind,l,r,[],[],[],0⟩]) (N.length:Int).toNat=⟨kind,l,r,[],[],[],0⟩:=by rw[fm];exact Zv _ _
 have el:lf (N++[⟨kind,l,r,[],[],[],0⟩]) N.length=l:=by unfold lf;rw[e]
 have er:rg (N++[⟨kind,l,r,[],[],[],0⟩]) N.length=r:=by unfold rg;rw[e]
 exact⟨⟨by omega,by simp only[tm,pu];omega,by rw[e],by rw[el];exact hl,by rw[er];exact hr⟩,el,er⟩
theorem ua:zG2 xW 2 0:={
 kw:=by decide
 next:=λop=>by rw[aI,tj (by rintro(⟨h,_⟩|⟨h,_⟩) <;> exact M' h)];decide
 opn:=oK
 node:=λa l r h1 h2 h3 h4=>⟨λe=>M' (show (2:Int)=1 from e),λ_=>⟨h1,h2,h3,h4⟩,λe=>M' (show (2:Int)=3 from e),λ_ e=>x' rfl e⟩
 make:=λN u t v x y l r hc hl hr h1 h2=>by
  obtain⟨hb,el,er⟩:=B4 2 l r N hl hr;exact⟨Aw x y,fP.and _ _ _ _ _ _ _ _ (tg _) hc hb (by rw[el];exact h1) (by rw[er];exact h2)⟩
 wt:=λu t v x y N a b p q h1 h2 h3=>NG h1 h2 h3
 gj:=⟨by decide,by decide,by decide⟩
 kind:=.inr rfl
 oz:=λc h _=>⟨λ_=>h,λh=>M' h⟩ }
theorem Rk:zG2 tC 1 1:={
 kw:=by decide
 next:=λop=>by rw[aI,tj (by rintro(⟨h,_⟩|⟨h,_⟩) <;> exact M' h)];decide
 opn:=Qa
 node:=λa l r h1 h2 h3 h4=>⟨λ_=>⟨h1,h2,h3,h4⟩,λe=>M' (show (1:Int)=2 from e),λe=>M' (show (1:Int)=3 from e),λe=>x' rfl e⟩
 make:=λN u t v x y l r hc hl hr h1 h2=>by
  obtain⟨hb,el,er⟩:=B4 1 l r N hl hr;exact⟨ET x y,fP.or _ _ _ _ _ _ _ _ (tg _) hc hb (by rw[el];exact h1) (by rw[er];exact h2)⟩
 wt:=λu t v x y N a b p q h1 h2 h3=>Lr h1 h2 h3
 gj:=⟨by decide,by decide,by decide⟩
 kind:=.inl rfl
 oz:=λc h h2=>⟨λ_=>h2 (by decide),λ_=>h⟩ }
theorem UB{j:Nat}{op:Int}{q0:GS}{tok:Bs}{kind:Int}{item:GS->Int × GS}(J:zG2 tok kind j)
 (aD:∀(q:GS) (i:Nat),q.s=(i,false)->i<=ts.length->ts.length+1-i<=n->qZ q.nd->BQ ts len j i op d q (item q)) (k:Nat) :
 ∀(left:Int) (q:GS) (i':Nat) (u:yF) (x:Bs × Int),q.s=(i',false)->i<i'->i'<=ts.length->ts.length+1-i'<=n->ts.length+1-i'<=k->FA ts len i bB op=FA ts len i' mM op->(∃M,q.nd=q0.nd++M)->qZ q.nd ->
  (1<=j->cA ts i'≠xW)->Gr (j+1) u x q.nd left->ts.drop i=u++ts.drop i'->Wt q0 d q u->BQ ts len (j+1) i op d q0 (jK (pp ts len) item tok kind k left q):=by
 induction k with
 | zero=>intro left q i' u x _ _ h1 _ h2;omega
 | succ k ih =>
   intro left q i' u x hq aM hle hn hk hf hM hg hx1 hr hd ah;rw[jK,hq];rcases cE (len:=len) hle J.kw with ⟨hc,hi,e⟩|⟨hc,e⟩
   ·rw[e]
    simp only;have aV:FA ts len i bB op=FA ts len (i'+1) bB op:=hf.trans (uV hi hc (J.next op) (by decide) (J.opn op));have hI:=aD (q.to (i'+1,false)) (i'+1) rfl hi (by omega) hg;generalize item (q.to (i'+1,false))=r at hI ⊢;rcases hI with ⟨h1,h2⟩|⟨h1,h2,h3,h4,⟨M,h5⟩,h6,h7,h8,v,y,h9,aG,aK⟩
    ·obtain⟨a,⟨⟨s1,s2⟩,nd,te,de⟩⟩:=r
     simp only at h1;subst h1;refine .inl ⟨?_,?_⟩
     ·rw[mP _ _ _ _ _ _ _ rfl];rfl
     ·rw[mP _ _ _ _ _ _ _ rfl,aV];exact h2
    ·obtain⟨M0,hM⟩:=hM
     obtain⟨a,⟨⟨s1,s2⟩,nd,te,de⟩⟩:=r;simp only[GS.to]at h1 h2 h3 h4 h5 h6 h7 h8 h9 aG;subst h1;have bl:=(hr.ext M).bound;rw[<-h5]at bl;have br:=h9.bound
     have rl:Gr (j+1) u x (nd++[⟨kind,left,a,[],[],[],0⟩]) left:=by
      have:=hr.ext (M++[⟨kind,left,a,[],[],[],0⟩]);rw[<-po,<-h5]at this;exact this
     obtain⟨z,hz⟩:=J.make nd u (TT ts i') v x y left a hc bl.2 br.2 rl (h9.ext _);refine ih _ _ s1 (u++TT ts i'::v) z rfl (by omega) h3 (by omega) (by omega) (aV.trans h4) ⟨M0++M++[⟨kind,left,a,[],[],[],0⟩],?_⟩ ?_ h7 hz ?_ ?_
     ·show nd++[_]=_
      rw[h5,hM];simp
     ·exact qZ.add h6 (J.node _ _ _ bl.1 bl.2 br.1 br.2)
     ·rw[hd,zN ts i' hi,aG];simp
     ·obtain⟨y1,L1,w1,w2,w3,w4,w5,w6⟩:=ah
      obtain⟨y2,L2,v1,v2,v3,v4,v5,v6⟩:=aK;have aJ:yE (TT ts i').2=tok:=hc;refine⟨gM y1 y2,L1++L2,J.wt _ _ _ _ _ _ _ _ _ _ hc rl (h9.ext _) w1 v1,?_,?_,?_,w5.join v5 (by rw[aJ];exact J.gj.1) (by rw[aJ];exact J.gj.2),?_⟩
      ·simp only[gM];split <;> omega
      ·simp only[GS.to]at v3
       show te=q0.tests+(y1.1+y2.1);omega
      ·simp only[GS.to]at v4
       show q0.dep<=de/\d+(gM y1 y2).2<=de/\(de=q0.dep\/de=d+(gM y1 y2).2);simp only[gM];split <;> omega
      ·simp only[GS.to]at v6
       show bK (nd++[_])=_;have e9:bK [⟨kind,left,a,[],[],[],0⟩]=[]:=by rcases J.kind with rfl|rfl <;> rfl
       rw[iT,e9,mt,v6,w6,po]
   ·rw[e]
    simp only;obtain⟨e1,e2⟩:=J.oz (cA ts i') hc hx1;exact .inr ⟨rfl,aM,hle,hf,hM,hg,e1,e2,u,x,hr,hd,ah⟩
theorem JD{op:Int}{fact:GS->Int->Int × GS}
 (aD:∀(q:GS) (i:Nat),q.s=(i,false)->i<=ts.length->ts.length+1-i<=n->qZ q.nd->BQ ts len 0 i op d q (fact q d))
 (q:GS) (i:Nat) (hq:q.s=(i,false)) (hi:i<=ts.length) (hn:ts.length+1-i<=n) (hg:qZ q.nd):BQ ts len 1 i op d q (kR (pp ts len) fact q d):=by
 unfold kR;have hI:=aD q i hq hi hn hg;generalize fact q d=r at hI ⊢;obtain⟨a,⟨⟨s1,s2⟩,nd,te,de⟩⟩:=r;rcases hI with ⟨h1,h2⟩|⟨h1,h2,h3,h4,h5,h6,h7,h8,v,y,h9,aG,aK⟩
 ·simp only at h1
  subst h1;refine .inl ⟨?_,?_⟩
  ·rw[mP _ _ _ _ _ _ _ rfl]
  ·rw[mP _ _ _ _ _ _ _ rfl];exact h2
 ·simp only at h1 h2 h3 h4 h5 h6 h7 h8 h9 aG
  subst h1;exact UB ua aD (pp ts len).length a ⟨(s1,false),nd,te,de⟩ s1 v y rfl h2 h3 (by omega) (by rw[iN];omega) h4 h5 h6 (λh=>M' h) (h9.le (by decide)) aG aK
theorem G7{op:Int}{fact:GS->Int->Int × GS}
 (aD:∀(q:GS) (i:Nat),q.s=(i,false)->i<=ts.length->ts.length+1-i<=n->qZ q.nd->BQ ts len 0 i op d q (fact q d))
 (q:GS) (i:Nat) (hq:q.s=(i,false)) (hi:i<=ts.length) (hn:ts.length+1-i<=n) (hg:qZ q.nd):BQ ts len 2 i op d q (dC (pp ts len) fact q d):=by
 unfold dC;have hI:=JD aD q i hq hi hn hg;generalize kR (pp ts len) fact q d=r at hI ⊢;obtain⟨a,⟨⟨s1,s2⟩,nd,te,de⟩⟩:=r;rcases hI with ⟨h1,h2⟩|⟨h1,h2,h3,h4,h5,h6,h7,h8,v,y,h9,aG,aK⟩
 ·simp only at h1
  subst h1;refine .inl ⟨?_,?_⟩
  ·rw[mP _ _ _ _ _ _ _ rfl]
  ·rw[mP _ _ _ _ _ _ _ rfl];exact h2
 ·simp only at h1 h2 h3 h4 h5 h6 h7 h8 h9 aG
  subst h1;exact UB Rk (λq i=>JD aD q i) (pp ts len).length a ⟨(s1,false),nd,te,de⟩ s1 v y rfl h2 h3 (by omega) (by rw[iN];omega) h4 h5 h6 (λ_=>h7 (by decide)) (h9.le (by decide)) aG aK
theorem RK(aO:oW ts)(n:Nat):∀(op d:Int),0<=op->∀(q:GS) (i:Nat),q.s=(i,false)->i<=ts.length->ts.length+1-i<=n->qZ q.nd->BQ ts len 0 i op d q (yQ (pp ts len) n q d):=by
 induction n with
 | zero=>intro op d _ q i _ h1 h2;omega
 | succ n ih =>
   intro op d aq q i hq hi hn hg;rw[yQ,hq];rcases cE (len:=len) hi (t:=xE) (by decide) with ⟨hc,aM,e⟩|⟨hc,e⟩
   ·rw[e]
    simp only;have hf:FA ts len i bB op=FA ts len (i+1) bB op:=uV aM hc rfl (by decide) (Zs op);have hI:=ih op (d+1) aq (q.to (i+1,false)) (i+1) rfl aM (by omega) hg;generalize yQ (pp ts len) n (q.to (i+1,false)) (d+1)=r at hI ⊢;rcases hI with ⟨h1,h2⟩|⟨h1,h2,h3,h4,⟨M,h5⟩,h6,h7,h8,v,y,h9,aG,aK⟩
    ·exact .inl ⟨h1,by rw[hf];exact h2⟩
    ·obtain⟨a,⟨⟨s1,s2⟩,nd,te,de⟩⟩:=r
     simp only[GS.to]at h1 h2 h3 h4 h5 h6 h7 h8 h9 aG;subst h1;have br:=h9.bound;have en:vY (nd++[⟨3,a,0,[],[],[],0⟩]) (nd.length:Int).toNat=⟨3,a,0,[],[],[],0⟩:=by rw[fm];exact Zv _ _
     have el:lf (nd++[⟨3,a,0,[],[],[],0⟩]) nd.length=a:=by unfold lf;rw[en]
     have aj:Gr 0 (TT ts i::v) (Dk y) (nd++[⟨3,a,0,[],[],[],0⟩]) (nd.length:Int):=by
      refine fP.neg _ _ _ _ _ _ hc ⟨by omega,by simp only[tm,pu];omega,by rw[en],by rw[el];exact br.2⟩ ?_;rw[el];exact h9.ext _
     have aJ:yE (TT ts i).2=xE:=hc;refine .inr ⟨rfl,(by show i<s1;omega),h3,hf.trans h4,⟨M++[⟨3,a,0,[],[],[],0⟩],?_⟩,?_,λh=>M' h,λh=>M' h,TT ts i::v,Dk y,aj,?_,?_⟩
     ·show nd++[_]=_
      rw[h5];simp
     ·exact qZ.add h6 ⟨λe=>M' (show (3:Int)=1 from e),λe=>M' (show (3:Int)=2 from e),λ_=>br,λ_ _ e=>x' rfl e⟩
     ·show ts.drop i=(TT ts i::v)++ts.drop s1
      rw[zN ts i aM,aG];rfl
     ·obtain⟨y2,L2,v1,v2,v3,v4,v5,v6⟩:=aK
      simp only[GS.to]at v3 v4 v6;refine⟨(y2.1,y2.2+1),L2,NH hc aj v1,by simp only;omega,v3,?_,v5.ahead (by rw[aJ];decide) (by rw[aJ];exact⟨by decide,by decide⟩),?_⟩
      ·show q.dep<=de/\d+(y2.2+1)<=de/\(de=q.dep\/de=d+(y2.2+1))
       omega
      ·show bK (nd++[_])=_
       rw[iT,v6,show bK [⟨3,a,0,[],[],[],0⟩]=[] from rfl,mt]
   rw[e];simp only;rcases cE (len:=len) hi (t:=yS) (by decide) with ⟨aF,aM,e2⟩|⟨aF,e2⟩
   ·rw[e2]
    simp only;have hf:FA ts len i bB op=FA ts len (i+1) bB (op+1):=uV aM aF rfl (by decide) (Zr op);have hI:=G7 (λq i=>ih (op+1) (d+1) (by omega) q i) (q.to (i+1,false)) (i+1) rfl aM (by omega) hg;generalize dC (pp ts len) (yQ (pp ts len) n) (q.to (i+1,false)) (d+1)=r at hI ⊢;rcases hI with ⟨h1,h2⟩|⟨h1,h2,h3,h4,⟨M,h5⟩,h6,h7,h8,v,y,h9,aG,aK⟩
    ·obtain⟨a,⟨⟨s1,s2⟩,nd,te,de⟩⟩:=r
     simp only at h1;subst h1;exact .inl ⟨rfl,by rw[hf];exact h2⟩
    ·obtain⟨a,⟨⟨s1,s2⟩,nd,te,de⟩⟩:=r
     simp only[GS.to]at h1 h2 h3 h4 h5 h6 h7 h8 h9 aG;subst h1;simp only[GS.to];rcases gU (len:=len) h3 (t:=vF) (by decide) with ⟨aA,aP,e3⟩|⟨aA,e3⟩
     ·rw[e3]
      have aX:uN mM vF (op+1)=mM:=by
       rw[aI,tj (by rintro(⟨_,h⟩|⟨h,_⟩);omega;exact M' h)];decide
      have au:=uV (len:=len) aP aA aX (by decide) (show opn vF (op+1)=op by rw[Zq];omega);refine .inr ⟨rfl,(by show i<s1+1;omega),aP,hf.trans (h4.trans au),⟨M,h5⟩,h6,λh=>M' h,λh=>M' h,TT ts i::(v++[TT ts s1]),y,fP.br _ _ _ _ _ _ _ aF aA h9,?_,?_⟩
      ·show ts.drop i=(TT ts i::(v++[TT ts s1]))++ts.drop (s1+1)
       rw[zN ts i aM,aG,zN ts s1 aP];simp
      ·obtain⟨y2,L2,v1,v2,v3,v4,v5,v6⟩:=aK
       simp only[GS.to]at v3 v4 v6;have ho:yE (TT ts i).2=yS:=aF;have hs:yE (TT ts s1).2=vF:=aA;refine⟨(y2.1,y2.2+1),L2,Lq aF aA h9 v1,by simp only;omega,v3,?_,(v5.behind (by rw[hs];decide) (by rw[hs];exact⟨by decide,by decide⟩)).ahead (by rw[ho];decide) (by rw[ho];exact⟨by decide,by decide⟩),v6⟩;show q.dep<=de/\d+(y2.2+1)<=de/\(de=q.dep\/de=d+(y2.2+1));omega
     ·rw[e3]
      refine .inl ⟨rfl,?_⟩;rw[hf,h4];exact nB h3 (Yu (h8 (by decide)) (h7 (by decide)) (λe=>x' e aA) (λ_=>by omega)) (.inr (by decide))
   ·rw[e2]
    simp only;have hT:=S4 (len:=len) aO hi op hc aF;generalize xH (pp ts len) (i,false)=r at hT ⊢;obtain⟨z,⟨s1,s2⟩⟩:=r;rcases hT with ⟨h1,h2⟩|⟨h1,h2,h3,h4,u,h5,h6,⟨h7,h8,h9,av⟩,aK⟩
    ·simp only at h1;subst h1
     exact .inl ⟨rfl,h2⟩
    ·simp only at h1 h2 h3 h4 h5 h7 h8 h9;subst h1
     have en:vY (q.nd++[z]) (q.nd.length:Int).toNat=z:=(by rw[fm];exact Zv _ _);refine .inr ⟨rfl,h2,h3,h4,⟨[z],rfl⟩,?_,λh=>M' h,λh=>M' h,u,(cM u,0),?_,h5,?_⟩
     ·have hz:CX z q.nd.length:=⟨λ(e:z.kind=1)=>by omega,λ(e:z.kind=2)=>by omega,λ(e:z.kind=3)=>by omega,λ_ _ _=>⟨h7,h8⟩⟩
      exact qZ.add hg hz
     ·show Gr 0 u (cM u,0) (q.nd++[z]) (q.nd.length:Int)
      refine fP.test _ _ _ _ h6 ⟨by omega,by simp only[tm,pu];omega,?_⟩;rw[en];exact⟨h7.1,h9,av⟩
     ·refine⟨(1,0),Ex z,PU h6,by simp,rfl,?_,aK,?_⟩
      ·show q.dep<=(if q.dep<d then d else q.dep)/\d+0<=(if q.dep<d then d else q.dep)/\((if q.dep<d then d else q.dep)=q.dep\/(if q.dep<d then d else q.dep)=d+0)
       split <;> omega
      ·show bK (q.nd++[z])=_
       rw[iT];simp[bK]
theorem uo(aO:oW ts)(hi:i<=ts.length):BQ ts len 2 i 0 0 ⟨(i,false),[],0,0⟩ (vU (pp ts len) (i,false)):=by
 unfold vU Yg;exact G7 (λq i=>RK aO (pp ts len).length 0 0 (by decide) q i) ⟨(i,false),[],0,0⟩ i rfl hi (by rw[iN];omega) aR
end Go.Proofs.YtnbpdffdnphbeabGreatDoor
