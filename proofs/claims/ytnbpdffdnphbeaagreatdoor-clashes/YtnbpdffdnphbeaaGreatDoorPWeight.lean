import Derived.Test.YtnbpdffdnphbeaaGreatDoorWsum
namespace Go.Proofs.YtnbpdffdnphbeaaGreatDoor
variable{cl:Bs}{x:Bs × Int}{a d:Int}{L:List (Nat × Bs)}{N:List zX}{i k:Nat}{t:Nat × Bs}{ts u:zG}(s:Bs)(P:List PT)(n:Nat)(w:Bs)
def pV(a b:Int × Int):Int × Int:=(a.1+b.1,if a.2<b.2 then b.2 else a.2)
def yD:Nat->zG->Int × Int
 | 0,_=>(0,0)
 | n+1,ts =>
   if 0<=yF ts xW then pV (yD n (ts.take (yF ts xW).toNat)) (yD n (ts.drop ((yF ts xW).toNat+1)))
   else if 0<=yF ts yE then pV (yD n (ts.take (yF ts yE).toNat)) (yD n (ts.drop ((yF ts yE).toNat+1)))
   else if zS (ts.getD 0 (0,[])).2=yY then ((yD n (ts.drop 1)).1,(yD n (ts.drop 1)).2+1)
   else if zS (ts.getD 0 (0,[])).2=yQ then ((yD n ((ts.drop 1).take (ts.length-2))).1,(yD n ((ts.drop 1).take (ts.length-2))).2+1)
   else (1,0)
theorem tM:∀ts:zG,0<=(yD n ts).1/\(yD n ts).1<=ts.length+1/\0<=(yD n ts).2/\(yD n ts).2<=ts.length:=by
 induction n with
 | zero=>intro ts;simp[yD];omega
 | succ n ih =>
   intro ts;rw[yD];split
   ·rename_i h
    have hb:=(xR ts xW).2;have h1:=ih (ts.take (yF ts xW).toNat);have h2:=ih (ts.drop ((yF ts xW).toNat+1));rw[p9]at h1;rw[ty]at h2;simp only[pV];split <;> omega
   ·split
    ·rename_i h
     have hb:=(xR ts yE).2;have h1:=ih (ts.take (yF ts yE).toNat);have h2:=ih (ts.drop ((yF ts yE).toNat+1));rw[p9]at h1;rw[ty]at h2;simp only[pV];split <;> omega
    ·split
     ·rename_i h
      have h1:=ih (ts.drop 1)
      have h2:0<ts.length:=by
       cases ts with
       | nil=>exact absurd h (by decide)
       | cons _ _=>simp
      rw[ty]at h1;simp only;omega
     ·split
      ·rename_i h
       have h1:=ih ((ts.drop 1).take (ts.length-2))
       have h2:0<ts.length:=by
        cases ts with
        | nil=>exact absurd h (by decide)
        | cons _ _=>simp
       rw[p9,ty]at h1;simp only;omega
      ·simp;omega
def Yv(r:zG)(nx:Bs):Bs:=match r with | []=>nx|s::_=>zS s.2
def jf(p:Bs):zG->Bs
 | []=>p
 | t::r=>jf (zS t.2) r
def DL(p:Bs):zG->Bs
 | []=>p
 | t::r=>DL t.2 r
def mW(p nx:Bs):Nat:=if p=[104,97,115] then 1 else if p∈jC\/nx∈jC then 2 else 3
def qX:Bs->zG->Bs->List (Nat × Bs)
 | _,[],_=>[]
 | p,t::r,nx=>(if zS t.2=yU then [(mW p (Yv r nx),t.2)] else [])++qX (zS t.2) r nx
theorem Gw(u v:zG)(nx:Bs):Yv (u++v) nx=Yv u (Yv v nx):=by cases u <;> rfl
theorem Js(u v:zG)(nx:Bs):∀p,qX p (u++v) nx=qX p u (Yv v nx)++qX (jf p u) v nx:=by
 induction u with
 | nil=>intro p;rfl
 | cons t r ih=>intro p;rw[bw,qX,ih,qX,jf,Gw,mn]
def neut(c:Bs):Prop:=c≠[104,97,115]/\c ∉ jC
def rB(u:zG)(L:List (Nat × Bs)):Prop:=∀p nx,neut p->nx ∉ jC->qX p u nx=L
theorem rB.join{v:zG}{L':List (Nat × Bs)}(hu:rB u L)(hv:rB v L')(ht:zS t.2≠yU)(hn:neut (zS t.2)):rB (u++t::v) (L++L'):=by
 intro p nx hp hnx;rw[Js,show Yv (t::v) nx=zS t.2 from rfl,hu p _ hp hn.2,qX,tg ht,bf,hv _ _ hn hnx]
theorem rB.ahead(hu:rB u L)(ht:zS t.2≠yU)(hn:neut (zS t.2)):rB (t::u) L:=by
 intro p nx _ hnx;rw[qX,tg ht,bf,hu _ _ hn hnx]
theorem rB.behind(hu:rB u L)(ht:zS t.2≠yU)(hn:neut (zS t.2)):rB (u++[t]) L:=by
 intro p nx hp _;rw[Js,show Yv [t] nx=zS t.2 from rfl,hu p _ hp hn.2,qX,tg ht,qX];simp
def VA(x:zX):List (Nat × Bs) :=
 if x.kind=5 then [(1,x.name)] else if x.kind=6 then [(3,x.name)] else if x.kind=7 then (2,x.name)::(if x.other=[] then [] else [(2,x.other)]) else []
def tE(N:List zX):List (Nat × Bs):=N.flatMap VA
theorem iH(N M:List zX):tE (N++M)=tE N++tE M:=by simp[tE]
def cK:zG->List (Nat × Bs)
 | []=>[]
 | t::r=>(if zS t.2=yU then [(0,t.2)] else [])++cK r
def kK:zG->Nat
 | []=>0
 | t::r=>(if zS t.2=[43]\/zS t.2=[45] then 1 else 0)+kK r
def mL:Bs->zG->Bool
 | _,[]=>false
 | p,t::r=>(decide (zS t.2=[42])&&decide (9<xD 0 p)) || mL t.2 r
theorem Gx(u v:zG):cK (u++v)=cK u++cK v:=by
 induction u with
 | nil=>rfl
 | cons t r ih=>rw[bw,cK,ih,cK,mn]
theorem zr(u v:zG):kK (u++v)=kK u+kK v:=by
 induction u with
 | nil=>simp[kK]
 | cons t r ih=>rw[bw,kK,ih,kK];omega
theorem zAW(u v:zG):∀p,mL p (u++v)=(mL p u || mL (DL p u) v):=by
 induction u with
 | nil=>intro p;simp[mL,DL]
 | cons t r ih=>intro p;rw[bw,mL,ih,mL,DL,Bool.or_assoc]
def rS(x:yZ):List (Nat × Bs):=if x.name=[] then [] else [(0,x.name)]
def tD(x:yZ):Bool:=x.starred&&decide (9<x.num)
structure QT(v:zG)(S:List yZ):Prop where
 needs:cK v=S.flatMap rS
 count:kK v+1=S.length
 big:∀p,mL p v=S.any tD
 star:∀k,k<v.length->zS (v.getD k (0,[])).2=[42]->0<k/\zS (v.getD (k-1) (0,[])).2=yB
theorem QT.join{v:zG}{S S':List yZ}(hu:QT u S)(hv:QT v S')(ht:zS t.2=[43]\/zS t.2=[45]):QT (u++t::v) (S++S'):=by
 have h1:zS t.2≠yU:=by rcases ht with h|h <;> rw[h] <;> decide
 have h2:zS t.2≠[42]:=by rcases ht with h|h <;> rw[h] <;> decide
 refine⟨?_,?_,?_,?_⟩
 ·rw[Gx,cK,tg h1,hu.needs,hv.needs,f9,bf]
 ·rw[zr,kK,tl ht,tq,<-hu.count,<-hv.count];omega
 ·intro p;rw[zAW,mL,hu.big,hv.big,th h2,df];simp
 ·intro k hk h
  rcases Nat.lt_trichotomy k u.length with h3|h3|h3
  ·have e:∀i,i<u.length->(u++t::v).getD i (0,[])=u.getD i (0,[]):=fun i hi=>by rw[List.getD,List.getD,pw hi]
   rw[e k h3]at h;obtain⟨h4,h5⟩:=hu.star k h3 h;exact⟨h4,by rw[e (k-1) (by omega)];exact h5⟩
  ·subst h3
   rw[List.getD,pf (t9 _)]at h;simp only[bj,cg,Option.getD_some]at h;exact absurd h h2
  ·have e:∀i,u.length<i->(u++t::v).getD i (0,[])=v.getD (i-u.length-1) (0,[]):=fun i hi=>by
    rw[List.getD,List.getD,pf (by omega)];obtain⟨m,hm⟩:∃m,i-u.length=m+1:=⟨i-u.length-1,by omega⟩;rw[hm];rfl
   rw[e k h3]at h;obtain⟨h4,h5⟩:=hv.star (k-u.length-1) (by simp only[tq,p7]at hk;omega) h;exact⟨by omega,by rw[e (k-1) (by omega),show k-1-u.length-1=k-u.length-1-1 by omega];exact h5⟩
def jR(st:Bs):List Bs:=(List.range 43).filterMap fun i=>if xP.getD (i*3) []=st then some (xP.getD (i*3+1) []) else none
theorem Ky(st cl:Bs)(n:Nat):∀i,i+n<=43->cl ∉ jR st->xM st cl n i=[]:=by
 induction n with
 | zero=>intro i _ _;rfl
 | succ n ih =>
   intro i hi h;rw[xM,tg,ih (i+1) (by omega) h];rintro⟨h1,h2⟩;refine h (List.mem_filterMap.2 ⟨i,db.2 (by omega),?_⟩);rw[tl h1,h2]
theorem Cq{st:Bs}{op:Int}(h1:st≠uV)(h2:st≠qJ):zO st cl op=xM st cl 43 0:=by
 unfold zO;simp only[h1,false_and,if_false,h2]
theorem mV{st:Bs}{op:Int}(h1:st≠uV)(h2:st≠qJ)(h:cl ∉ jR st):zO st cl op=[]:=by
 rw[Cq h1 h2];exact Ky st cl 43 0 (by omega) h
theorem Cp:jR qJ=[xW,yE,xS,qQ]:=by decide
theorem VC:jR uV=jC:=by decide
theorem aE(cl:Bs)(op:Int):zO qJ cl op=if cl=xS/\op=0\/cl=qQ/\0<op then [] else xM qJ cl 43 0:=by
 unfold zO;simp only[ite_self,true_and]
theorem ZU{op:Int}(h1:cl≠xW)(h2:cl≠yE)(h3:cl=xS->op=0)(h4:cl=qQ->0<op):zO qJ cl op=[]:=by
 rw[aE];split
 ·rfl
 ·rename_i h
  refine Ky _ _ 43 0 (by omega) ?_;rw[Cp];simp only[pi,l9,dn,h1,h2,false_or];rintro(e|e)
  ·exact h (.inl ⟨e,h3 e⟩)
  ·exact h (.inr ⟨e,h4 e⟩)
theorem Cu{op:Int}(h:cl ∉ jC):zO uV cl op=zO qJ cl op:=by
 by_cases hc:cl=xW\/cl=yE\/cl=xS\/cl=qQ
 ·unfold zO
  simp only[hc,and_self,if_true,ite_self]
 ·have e1:zO uV cl op=xM uV cl 43 0:=by
   unfold zO;simp only[hc,and_false,if_false];rw[tg (by intro h;exact absurd h.1 (by decide))]
  rw[e1,Ky _ _ 43 0 (by omega) (by rw[VC];exact h)];rw[ZU (fun e=>hc (.inl e)) (fun e=>hc (.inr (.inl e))) (fun e=>absurd (.inr (.inr (.inl e))) hc) (fun e=>absurd (.inr (.inr (.inr e))) hc)]
def zDE:List Bs:=DO++VI
theorem ZM:∀t∈zDE,zS t=t/\vU t=4/\t≠YI/\t≠yU/\t≠yB:=by decide
theorem aO:(vU s=4/\s∈zDE/\zS s=s)\/(vU s=2/\zS s=yU)\/(vU s=3/\zS s=yB)\/(vU s=1/\zS s=YI):=by
 unfold vU zS;rw[De,UH];split
 ·split
  ·exact .inr (.inr (.inr ⟨rfl,rfl⟩))
  ·split
   ·rename_i h
    refine .inl ⟨rfl,?_,rfl⟩;unfold qG at h;exact pt.2 (.inl (by simpa using h))
   ·exact .inr (.inl ⟨rfl,rfl⟩)
 ·split
  ·split
   ·exact .inr (.inr (.inr ⟨rfl,rfl⟩))
   ·exact .inr (.inr (.inl ⟨rfl,rfl⟩))
  ·split
   ·rename_i h
    refine .inl ⟨rfl,?_,rfl⟩;unfold vG at h;exact pt.2 (.inr (by simpa using h))
   ·exact .inr (.inr (.inr ⟨rfl,rfl⟩))
theorem zAO{s t:Bs}(ht:t∈zDE):(vU s=4/\s=t) ↔ zS s=t:=by
 obtain⟨a,b,c,d,e⟩:=ZM t ht;constructor
 ·rintro⟨_,rfl⟩;exact a
 ·intro h
  rcases aO s with ⟨h1,_,h2⟩|⟨_,h2⟩|⟨_,h2⟩|⟨_,h2⟩
  ·exact⟨h1,h2.symm.trans h⟩
  ·exact absurd (h.symm.trans h2) d
  ·exact absurd (h.symm.trans h2) e
  ·exact absurd (h.symm.trans h2) c
theorem zAN:vU s=2 ↔ zS s=yU:=by
 rcases aO s with ⟨h1,h3,h2⟩|⟨h1,h2⟩|⟨h1,h2⟩|⟨h1,h2⟩
 ·obtain⟨a,b,c,d,e⟩:=ZM s h3
  exact⟨fun h=>absurd (h1.symm.trans h) (by decide),fun h=>absurd (h2.symm.trans h) d⟩
 ·exact⟨fun _=>h2,fun _=>h1⟩
 ·exact⟨fun h=>absurd (h1.symm.trans h) (by decide),fun h=>absurd (h2.symm.trans h) (by decide)⟩
 ·exact⟨fun h=>absurd (h1.symm.trans h) (by decide),fun h=>absurd (h2.symm.trans h) (by decide)⟩
theorem oO:vU s=3 ↔ zS s=yB:=by
 rcases aO s with ⟨h1,h3,h2⟩|⟨h1,h2⟩|⟨h1,h2⟩|⟨h1,h2⟩
 ·obtain⟨a,b,c,d,e⟩:=ZM s h3
  exact⟨fun h=>absurd (h1.symm.trans h) (by decide),fun h=>absurd (h2.symm.trans h) e⟩
 ·exact⟨fun h=>absurd (h1.symm.trans h) (by decide),fun h=>absurd (h2.symm.trans h) (by decide)⟩
 ·exact⟨fun _=>h2,fun _=>h1⟩
 ·exact⟨fun h=>absurd (h1.symm.trans h) (by decide),fun h=>absurd (h2.symm.trans h) (by decide)⟩
def pp(ts:zG)(len:Nat):List PT:=ts.map (fun t=>⟨vU t.2,t.2,pY t.2,t.1⟩)++[⟨0,[],0,len⟩]
theorem eY(ts:zG)(len:Nat):(pp ts len).length=ts.length+1:=by simp[pp]
def tA(ts:zG)(i:Nat):Bs:=(ts.getD i (0,[])).2
def cA(ts:zG)(i:Nat):Bs:=zS (tA ts i)
theorem KG(h:ts.length<=i):cA ts i=YI:=by
 unfold cA tA;rw[List.getD,fw h];decide
theorem zAR(h:cA ts i≠YI):i<ts.length:=by
 rcases po i ts.length with h1|h1
 ·exact h1
 ·exact absurd (KG h1) h
theorem cQ{t:Bs}(ht:t∈zDE)(h:cA ts i=t):i<ts.length/\tA ts i=t :=
 ⟨zAR (by rw[h];exact(ZM t ht).2.2.1),((zAO ht).2 h).2⟩
theorem oM{len:Nat}(h:i<ts.length):yW (pp ts len) i=⟨vU (tA ts i),tA ts i,pY (tA ts i),(ts.getD i (0,[])).1⟩:=by
 unfold yW pp tA;rw[List.getD,pw (by simpa using h)];simp[List.getD,h]
theorem aN{len:Nat}:yW (pp ts len) ts.length=⟨0,[],0,len⟩:=by
 unfold yW pp;simp[List.getD]
theorem YO{len:Nat}(h:i<=ts.length){t:Bs}(ht:t∈zDE):bJ (pp ts len) t i false=decide (cA ts i=t):=by
 unfold bJ;rcases po i ts.length with h1|h1
 ·rw[oM h1]
  simp only[dh,md,<-Bool.decide_and];exact bp.2 (zAO ht)
 ·obtain rfl:i=ts.length:=by omega
  rw[aN,KG (t9 _)];have h2:=(ZM t ht).2.2.1;have h3:¬YI=t:=fun e=>h2 e.symm;rw[th h3];rfl
theorem Vk{len:Nat}(h:i<=ts.length):kP (pp ts len) 2 i false=decide (cA ts i=yU):=by
 unfold kP;rcases po i ts.length with h1|h1
 ·rw[oM h1]
  simp only[dh,md];exact bp.2 (zAN _)
 ·obtain rfl:i=ts.length:=by omega
  rw[aN,KG (t9 _)];rfl
theorem Xp{len:Nat}(h:i<=ts.length):kP (pp ts len) 3 i false=decide (cA ts i=yB):=by
 unfold kP;rcases po i ts.length with h1|h1
 ·rw[oM h1]
  simp only[dh,md];exact bp.2 (oO _)
 ·obtain rfl:i=ts.length:=by omega
  rw[aN,KG (t9 _)];rfl
section steps
variable {ts:zG} {len i:Nat}
theorem cW(h:i<=ts.length){t:Bs}(ht:t∈zDE):(cA ts i=t/\i<ts.length/\zC (pp ts len) t (i,false)=(true,(i+1,false)))\/(cA ts i≠t/\zC (pp ts len) t (i,false)=(false,(i,false))):=by
 by_cases hc:cA ts i=t
 ·refine .inl ⟨hc,(cQ ht hc).1,?_⟩
  simp only[zC,YO h ht,hc,fk,JK]
 ·refine .inr ⟨hc,?_⟩
  simp only[zC,YO h ht,hc,dt,JK]
theorem gI(h:i<=ts.length){t:Bs}(ht:t∈zDE):(cA ts i=t/\i<ts.length/\zU (pp ts len) t (i,false)=(i+1,false))\/(cA ts i≠t/\zU (pp ts len) t (i,false)=(i,true)):=by
 by_cases hc:cA ts i=t
 ·refine .inl ⟨hc,(cQ ht hc).1,?_⟩
  simp only[zU,YO h ht,hc,fk,JK,Bool.not_true]
 ·refine .inr ⟨hc,?_⟩
  simp only[zU,YO h ht,hc,dt,JK,dh]
theorem fJ(h:i<=ts.length):(cA ts i=yU/\i<ts.length/\zI (pp ts len) (i,false)=(tA ts i,(i+1,false)))\/(cA ts i≠yU/\zI (pp ts len) (i,false)=([],(i,true))):=by
 by_cases hc:cA ts i=yU
 ·have hi:i<ts.length:=zAR (by rw[hc];decide)
  refine .inl ⟨hc,hi,?_⟩;simp only[zI,Vk h,hc,fk,JK,tk,oM hi,Bool.not_true]
 ·refine .inr ⟨hc,?_⟩
  simp only[zI,Vk h,hc,dt,JK,tk,pz,dh]
theorem ux{s:Bs}(h:zS s=yB):pY s=xD 0 s:=by unfold pY;rw[tl ((oO s).2 h)]
theorem wY(h:i<=ts.length):(cA ts i=yB/\i<ts.length/\yM (pp ts len) (i,false)=(xD 0 (tA ts i),(i+1,false)))\/(cA ts i≠yB/\yM (pp ts len) (i,false)=(0,(i,true))):=by
 by_cases hc:cA ts i=yB
 ·have hi:i<ts.length:=zAR (by rw[hc];decide)
  refine .inl ⟨hc,hi,?_⟩;simp only[yM,Xp h,hc,fk,JK,tk,oM hi,Bool.not_true,ux hc]
 ·refine .inr ⟨hc,?_⟩
  simp only[yM,Xp h,hc,dt,JK,tk,pz,dh]
theorem YZ(h:i<=ts.length)(b:Bool):pA (pp ts len) (i,b)=decide (cA ts i=yB):=by
 rw[<-Xp (len:=len) h];simp only[pA,kP,dh,md];rfl
theorem Dc:∀t∈jC,t∈zDE:=by decide
theorem zGO(h:i<=ts.length):(cA ts i∈jC/\i<ts.length/\tA ts i=cA ts i/\vV (pp ts len) (i,false)=(cA ts i,(i+1,false)))\/(cA ts i ∉ jC/\vV (pp ts len) (i,false)=([],(i,false))):=by
 by_cases hc:cA ts i∈jC
 ·obtain⟨h1,h2⟩:=cQ (Dc _ hc) rfl
  refine .inl ⟨hc,h1,h2,?_⟩;unfold vV;have e:(yW (pp ts len) i).s=cA ts i:=by rw[oM h1];exact h2
  simp only[e];rcases cW (len:=len) h (Dc _ hc) with ⟨_,_,h3⟩|⟨h3,_⟩
  ·simp only[List.contains_iff_mem.2 hc,h3]
  ·exact absurd rfl h3
 ·refine .inr ⟨hc,?_⟩
  unfold vV
  have e:jC.contains (yW (pp ts len) i).s=false:=by
   rw[ff];intro h1;have h2:=List.contains_iff_mem.1 h1;rcases po i ts.length with h3|h3
   ·rw[oM h3]at h2
    have h4:tA ts i∈jC:=h2;exact hc (by unfold cA;rw[(ZM _ (Dc _ h4)).1];exact h4)
   ·obtain rfl:i=ts.length:=by omega
    rw[aN]at h2;exact absurd (show ([]:Bs)∈jC from h2) (by decide)
  simp only[e]
theorem Bx(t:Bs)(i:Nat):zC P t (i,true)=(false,(i,true)):=rfl
theorem rJ(t:Bs)(i:Nat):zU P t (i,true)=(i,true):=rfl
theorem Cv(i:Nat):zI P (i,true)=([],(i,true)):=rfl
theorem X8(i:Nat):yM P (i,true)=(0,(i,true)):=rfl
end steps
def FA(ts:zG)(len:Nat)(i:Nat)(st:Bs)(op:Int):Int:=jB len (ts.drop i) st op
theorem qE{len:Nat}{st st':Bs}{op op':Int}(h:i<ts.length)(hc:cA ts i=cl)(h1:zO st cl op=st')(h2:st'≠[])(h3:opn cl op=op'):FA ts len i st op=FA ts len (i+1) st' op':=by
 unfold FA;subst hc h1 h3;rw[zJ ts i h,jB];exact tg h2
theorem gV{len:Nat}{st:Bs}{op:Int}(h0:i<=ts.length)(h1:zO st (cA ts i) op=[])(h2:i<ts.length\/st≠jF):FA ts len i st op=((yW (pp ts len) i).p:Int):=by
 unfold FA;rcases po i ts.length with h|h
 ·rw[zJ ts i h,jB,oM h]
  show (if zO st (cA ts i) op=[] then _ else _)=_;rw[tl h1]
 ·obtain rfl:i=ts.length:=by omega
  rw[List.drop_length,jB,tg (by rcases h2 with h2|h2;omega;exact h2),aN]
theorem zBD{len:Nat}{op:Int}(h:cA ts i ∉ jC):FA ts len i uV op=FA ts len i qJ op:=by
 unfold FA;rcases po i ts.length with h1|h1
 ·rw[zJ ts i h1,jB,jB]
  have e:zO uV (zS (ts.getD i (0,[])).2) op=zO qJ (zS (ts.getD i (0,[])).2) op:=Cu h;rw[e]
 ·rw[tu h1,jB,jB];rfl
abbrev tP(c:Bs):Prop:=c≠xW/\c≠yE/\c≠xS/\c≠yQ/\c≠qQ/\c≠yY
def Bc:zG->Int->Int
 | [],op=>op
 | t::r,op=>Bc r (opn (zS t.2) op)
theorem Kn(u v:zG):∀op,Bc (u++v) op=Bc v (Bc u op):=by
 induction u with
 | nil=>intro op;rfl
 | cons t r ih=>intro op;exact ih _
theorem qW(u v:zG):∀i op at',uZ w (u++v) i op at'=uZ w v (i+u.length) (Bc u op) (uZ w u i op at'):=by
 induction u with
 | nil=>intro i op a;rfl
 | cons t r ih=>intro i op a;rw[bw,uZ,ih,uZ,Bc,p7];congr 1;omega
theorem Gk{c:Bs}(h:tP c)(op:Int):opn c op=op:=by unfold opn;rw[tg h.2.2.2.1,tg h.2.2.1]
theorem zBW(u:zG)(h:∀t∈u,tP (zS t.2)):∀op,Bc u op=op:=by
 induction u with
 | nil=>intro op;rfl
 | cons t r ih=>intro op;rw[Bc,Gk (h t (mw ..)),ih (fun x hx=>h x (cd _ hx))]
theorem jM(hw:w=xW\/w=yE)(u:zG)(h:∀t∈u,tP (zS t.2)):∀i op at',uZ w u i op at'=at':=by
 induction u with
 | nil=>intro i op a;rfl
 | cons t r ih =>
   intro i op a;have h1:=h t (mw ..);rw[uZ,tg,ih (fun x hx=>h x (cd _ hx))];rintro⟨_,h2⟩;rcases hw with rfl|rfl
   ·exact h1.1 h2
   ·exact h1.2.1 h2
theorem wW(op:Int):opn yQ op=op+1:=tl rfl
theorem wV(op:Int):opn xS op=op-1:=by unfold opn;rw[tg (by decide),tl rfl]
theorem wX(op:Int):opn yY op=op:=by unfold opn;rw[tg (by decide),tg (by decide)]
theorem rY(op:Int):opn xW op=op:=by unfold opn;rw[tg (by decide),tg (by decide)]
theorem cF(op:Int):opn yE op=op:=by unfold opn;rw[tg (by decide),tg (by decide)]
theorem zBU{n:Nat}(h:yF ts xW=k):pW (n+1) ts=((pW n (ts.take k)).1++[32,111,114,32]++(pW n (ts.drop (k+1))).1,2)/\qN (n+1) ts=(qN n (ts.take k)&&qN n (ts.drop (k+1))):=by
 rw[pW,qN,h,tl (by omega),tl (by omega)];exact⟨rfl,rfl⟩
theorem vp{n:Nat}(h0:yF ts xW = -1)(h:yF ts yE=k):pW (n+1) ts=((if (pW n (ts.take k)).2=2 then Bd (pW n (ts.take k)).1 else (pW n (ts.take k)).1)++[32,97,110,100,32]++(if (pW n (ts.drop (k+1))).2=2 then Bd (pW n (ts.drop (k+1))).1 else (pW n (ts.drop (k+1))).1),1)/\qN (n+1) ts=(qN n (ts.take k)&&qN n (ts.drop (k+1))):=by
 constructor
 ·rw[pW,h0,h,tg (by omega),tl (Int.natCast_nonneg k)];rfl
 ·rw[qN,h0,h,tg (by omega),tl (Int.natCast_nonneg k)];rfl
theorem lI(r:Bs)(st:fT):yV (s++[32]++r) st=yV r (yV s st):=by
 obtain⟨o,il⟩:=st;cases il <;> simp[yV,zHQ]
def jA:zG->fT->fT
 | [],st=>st
 | t::r,st=>jA r (yV t.2 st)
theorem eX(u v:zG):∀st,jA (u++v) st=jA v (jA u st):=by
 induction u with
 | nil=>intro st;rfl
 | cons t r ih=>intro st;exact ih _
theorem V1(r:zG):∀(s:Bs) (i:Nat) (st:fT),yV (Uo s (i+1) r) st=jA r (yV s st):=by
 induction r with
 | nil=>intro s i st;rfl
 | cons t r ih=>intro s i st;rw[Uo,tl (by omega),ih,lI,jA]
theorem oA(h:u≠[])(st:fT):jA u st=yV (dD u) st:=by
 cases u with
 | nil=>exact absurd rfl h
 | cons t r=>rw[dD,Uo,tg (by omega),bf,V1,jA]
theorem Xi(st:fT):yV (Bd s) st=yV xS (yV s (yV yQ st)):=by
 rw[<-lI,<-lI];simp[Bd,xS,yQ]
theorem Ze{M:List zX}{a:Nat}(h:a<N.length):kE (N++M) a=kE N a:=by
 unfold kE;rw[List.getD,pw h];rfl
abbrev lf(N:List zX)(a:Int):Int:=(kE N a.toNat).left
abbrev rg(N:List zX)(a:Int):Int:=(kE N a.toNat).right
def zEY(x:zX)(u:zG):Prop :=
 (x.kind=4/\∃t,u=[t]/\zS t.2=[97,108,119,97,121,115]) \/
 (x.kind=5/\∃t s,u=[t,s]/\zS t.2=[104,97,115]/\zS s.2=yU/\x.name=s.2) \/
 (x.kind=6/\∃t,u=[t]/\zS t.2=yU/\x.name=t.2) \/
 (x.kind=7/\∃t m s,u=[t,m,s]/\zS t.2=yU/\x.name=t.2/\m.2∈jC/\x.mark=m.2/\((zS s.2=yB/\x.other=[]/\x.num=xD 0 s.2)\/(zS s.2=yU/\x.other=s.2/\s.2≠[])))
def zEZ(N:List zX)(a:Int)(u:zG):Prop:=0<=a/\a<N.length/\(4<=(kE N a.toNat).kind)/\(∀st,Vf (kE N a.toNat) st=jA u st)/\zEY (kE N a.toNat) u
def zI3(N:List zX)(a:Int):Prop:=0<=a/\a<N.length/\(kE N a.toNat).kind=3/\lf N a<a
def zBF(kd:Int)(N:List zX)(a:Int):Prop:=0<=a/\a<N.length/\(kE N a.toNat).kind=kd/\lf N a<a/\rg N a<a
def JU(u:zG):Prop:=u≠[]/\∀t∈u,tP (zS t.2)
def QK(x:Bs × Int):Bs × Int:=([110,111,116,32]++(if 0<x.2 then Bd x.1 else x.1),0)
def UG(x y:Bs × Int):Bs × Int:=((if x.2=2 then Bd x.1 else x.1)++[32,97,110,100,32]++(if y.2=2 then Bd y.1 else y.1),1)
def orT(x y:Bs × Int):Bs × Int:=(x.1++[32,111,114,32]++y.1,2)
structure Cl(R:Nat->zG->Bs × Int->List zX->Int->Prop):Prop where
 test:∀k u N a,JU u->zEZ N a u->R k u (dD u,0) N a
 neg:∀k t u x N a,zS t.2=yY->zI3 N a->R 0 u x N (lf N a)->R k (t::u) (QK x) N a
 br:∀k o u c x N a,zS o.2=yQ->zS c.2=xS->R 2 u x N a->R k (o::(u++[c])) x N a
 and:∀k u t v x y N a,1<=k->zS t.2=yE->zBF 2 N a->R 1 u x N (lf N a)->R 0 v y N (rg N a)->R k (u++t::v) (UG x y) N a
 or:∀k u t v x y N a,2<=k->zS t.2=xW->zBF 1 N a->R 2 u x N (lf N a)->R 1 v y N (rg N a)->R k (u++t::v) (orT x y) N a
def Gr(k:Nat)(u:zG)(x:Bs × Int)(N:List zX)(a:Int):Prop:=∀R,Cl R->R k u x N a
theorem bH:Cl Gr:={
 test:=fun k u N a h1 h2 _ c=>c.test k u N a h1 h2
 neg:=fun k t u x N a h1 h2 h _ c=>c.neg k t u x N a h1 h2 (h _ c)
 br:=fun k o u e x N a h1 h2 h _ c=>c.br k o u e x N a h1 h2 (h _ c)
 and:=fun k u t v x y N a h1 h2 h3 h h' _ c=>c.and k u t v x y N a h1 h2 h3 (h _ c) (h' _ c)
 or:=fun k u t v x y N a h1 h2 h3 h h' _ c=>c.or k u t v x y N a h1 h2 h3 (h _ c) (h' _ c) }
theorem Gr.ind{R:Nat->zG->Bs × Int->List zX->Int->Prop}
 (test:∀k u N a,JU u->zEZ N a u->R k u (dD u,0) N a)
 (neg:∀k t u x N a,zS t.2=yY->zI3 N a->Gr 0 u x N (lf N a)->R 0 u x N (lf N a)->R k (t::u) (QK x) N a)
 (br:∀k o u c x N a,zS o.2=yQ->zS c.2=xS->Gr 2 u x N a->R 2 u x N a->R k (o::(u++[c])) x N a)
 (and:∀k u t v x y N a,1<=k->zS t.2=yE->zBF 2 N a->Gr 1 u x N (lf N a)->Gr 0 v y N (rg N a)->R 1 u x N (lf N a)->R 0 v y N (rg N a)->R k (u++t::v) (UG x y) N a)
 (or:∀k u t v x y N a,2<=k->zS t.2=xW->zBF 1 N a->Gr 2 u x N (lf N a)->Gr 1 v y N (rg N a)->R 2 u x N (lf N a)->R 1 v y N (rg N a)->R k (u++t::v) (orT x y) N a) (h:Gr k u x N a):R k u x N a :=
 (h (fun k u x N a=>Gr k u x N a/\R k u x N a) {
  test:=fun k u N a h1 h2=>⟨bH.test k u N a h1 h2,test k u N a h1 h2⟩
  neg:=fun k t u x N a h1 h2 h=>⟨bH.neg k t u x N a h1 h2 h.1,neg k t u x N a h1 h2 h.1 h.2⟩
  br:=fun k o u c x N a h1 h2 h=>⟨bH.br k o u c x N a h1 h2 h.1,br k o u c x N a h1 h2 h.1 h.2⟩
  and:=fun k u t v x y N a h1 h2 h3 h h'=>⟨bH.and k u t v x y N a h1 h2 h3 h.1 h'.1,and k u t v x y N a h1 h2 h3 h.1 h'.1 h.2 h'.2⟩
  or:=fun k u t v x y N a h1 h2 h3 h h'=>⟨bH.or k u t v x y N a h1 h2 h3 h.1 h'.1,or k u t v x y N a h1 h2 h3 h.1 h'.1 h.2 h'.2⟩ }).2
section gr
variable {k:Nat} {u:zG} {x:Bs × Int} {N:List zX} {a:Int}
theorem Gr.le(h:Gr k u x N a){k':Nat}(hk:k<=k'):Gr k' u x N a:=by
 refine Gr.ind (R:=fun k u x N a=>∀k',k<=k'->Gr k' u x N a) ?_ ?_ ?_ ?_ ?_ h k' hk
 ·intro k u N a h1 h2 k' _;exact bH.test _ _ _ _ h1 h2
 ·intro k t u x N a h1 h2 h3 _ k' _;exact bH.neg _ _ _ _ _ _ h1 h2 h3
 ·intro k o u c x N a h1 h2 h3 _ k' _;exact bH.br _ _ _ _ _ _ _ h1 h2 h3
 ·intro k u t v x y N a h1 h2 h3 h4 h5 _ _ k' hk;exact bH.and _ _ _ _ _ _ _ _ (tx h1 hk) h2 h3 h4 h5
 ·intro k u t v x y N a h1 h2 h3 h4 h5 _ _ k' hk;exact bH.or _ _ _ _ _ _ _ _ (tx h1 hk) h2 h3 h4 h5
theorem Gr.op(h:Gr k u x N a)(op:Int):Bc u op=op:=by
 refine Gr.ind (R:=fun _ u _ _ _=>∀op,Bc u op=op) ?_ ?_ ?_ ?_ ?_ h op
 ·intro k u N a h1 _ op;exact zBW u h1.2 op
 ·intro k t u x N a h1 _ _ ih op;rw[Bc,h1,wX,ih]
 ·intro k o u c x N a h1 h2 _ ih op;rw[Bc,h1,wW,Kn,ih,Bc,h2,wV,Bc];omega
 ·intro k u t v x y N a _ h2 _ _ _ ihu ihv op;rw[Kn,ihu,Bc,h2,cF,ihv]
 ·intro k u t v x y N a _ h2 _ _ _ ihu ihv op;rw[Kn,ihu,Bc,h2,rY,ihv]
theorem Gr.inner(h:Gr k u x N a)(w:Bs)(hw:w=xW\/w=yE)(i:Nat)(op at':Int)(ho:0<op):uZ w u i op at'=at':=by
 refine Gr.ind (R:=fun _ u _ _ _=>∀(i:Nat) (op at':Int),0<op->uZ w u i op at'=at') ?_ ?_ ?_ ?_ ?_ h i op at' ho
 ·intro k u N a h1 _ i op at' _;exact jM w hw u h1.2 i op at'
 ·intro k t u x N a h1 _ _ ih i op at' ho
  rw[uZ,h1,wX,tg (by intro e;omega),ih _ _ _ ho]
 ·intro k o u c x N a h1 h2 h3 ih i op at' ho
  rw[uZ,h1,wW,tg (by intro e;omega),qW,ih _ _ _ (by omega),h3.op,uZ,h2,wV,tg (by intro e;omega),uZ]
 ·intro k u t v x y N a _ h2 _ h4 _ ihu ihv i op at' ho
  rw[qW,ihu _ _ _ ho,h4.op,uZ,h2,cF,tg (by intro e;omega),ihv _ _ _ ho]
 ·intro k u t v x y N a _ h2 _ h4 _ ihu ihv i op at' ho
  rw[qW,ihu _ _ _ ho,h4.op,uZ,h2,rY,tg (by intro e;omega),ihv _ _ _ ho]
theorem dG(hw:w=xW\/w=yE){o c:Nat × Bs}(h1:zS o.2=yQ)(h2:zS c.2=xS)(h3:Gr k u x N a)(i:Nat)(at':Int):uZ w (o::(u++[c])) i 0 at'=at':=by
 rw[uZ,h1,wW,tg (by intro e;omega),qW,h3.inner w hw _ _ _ (by omega),h3.op,uZ,h2,wV,tg,uZ];rintro⟨_,e⟩;rcases hw with rfl|rfl
 ·exact absurd e (by decide)
 ·exact absurd e (by decide)
theorem Gr.out0(h:Gr 0 u x N a)(w:Bs)(hw:w=xW\/w=yE)(i:Nat)(at':Int):uZ w u i 0 at'=at':=by
 refine Gr.ind (R:=fun k u _ _ _=>k=0->∀(i:Nat) (at':Int),uZ w u i 0 at'=at') ?_ ?_ ?_ ?_ ?_ h rfl i at'
 ·intro k u N a h1 _ _ i at';exact jM w hw u h1.2 i 0 at'
 ·intro k t u x N a h1 _ _ ih _ i at'
  rw[uZ,h1,wX,tg,ih rfl];rintro⟨_,e⟩;rcases hw with rfl|rfl
  ·exact absurd e (by decide)
  ·exact absurd e (by decide)
 ·intro k o u c x N a h1 h2 h3 _ _ i at';exact dG w hw h1 h2 h3 i at'
 ·intro k u t v x y N a h1 _ _ _ _ _ _ e;omega
 ·intro k u t v x y N a h1 _ _ _ _ _ _ e;omega
theorem Gr.out1(h:Gr k u x N a)(hk:k<=1)(i:Nat)(at':Int):uZ xW u i 0 at'=at':=by
 refine Gr.ind (R:=fun k u _ _ _=>k<=1->∀(i:Nat) (at':Int),uZ xW u i 0 at'=at') ?_ ?_ ?_ ?_ ?_ h hk i at'
 ·intro k u N a h1 _ _ i at';exact jM xW (.inl rfl) u h1.2 i 0 at'
 ·intro k t u x N a h1 _ _ ih _ i at'
  rw[uZ,h1,wX,tg (by rintro⟨_,e⟩;exact absurd e (by decide)),ih (by decide)]
 ·intro k o u c x N a h1 h2 h3 _ _ i at';exact dG xW (.inl rfl) h1 h2 h3 i at'
 ·intro k u t v x y N a _ h2 _ h4 _ ihu ihv _ i at'
  rw[qW,ihu (by decide),h4.op,uZ,h2,cF,tg (by rintro⟨_,e⟩;exact absurd e (by decide)),ihv (by decide)]
 ·intro k u t v x y N a h1 _ _ _ _ _ _ e;omega
theorem Gr.pos(h:Gr k u x N a):0<u.length:=by
 refine Gr.ind (R:=fun _ u _ _ _=>0<u.length) ?_ ?_ ?_ ?_ ?_ h
 ·intro k u N a h1 _;exact ft.2 h1.1
 ·intro k t u x N a _ _ _ _;simp
 ·intro k o u c x N a _ _ _ _;simp
 ·intro k u t v x y N a _ _ _ _ _ _ _;simp only[tq,p7];omega
 ·intro k u t v x y N a _ _ _ _ _ _ _;simp only[tq,p7];omega
theorem Gr.bound(h:Gr k u x N a):0<=a/\a<N.length:=by
 refine Gr.ind (R:=fun _ _ _ N a=>0<=a/\a<(N.length:Int)) ?_ ?_ ?_ ?_ ?_ h
 ·intro k u N a _ h;exact⟨h.1,h.2.1⟩
 ·intro k t u x N a _ h _ _;exact⟨h.1,h.2.1⟩
 ·intro k o u c x N a _ _ _ ih;exact ih
 ·intro k u t v x y N a _ _ h _ _ _ _;exact⟨h.1,h.2.1⟩
 ·intro k u t v x y N a _ _ h _ _ _ _;exact⟨h.1,h.2.1⟩
theorem Gr.noEnd(h:Gr k u x N a):∀t∈u,zS t.2≠qQ:=by
 refine Gr.ind (R:=fun _ u _ _ _=>∀t∈u,zS t.2≠qQ) ?_ ?_ ?_ ?_ ?_ h
 ·intro k u N a h1 _ t ht;exact(h1.2 t ht).2.2.2.2.1
 ·intro k o u x N a h1 _ _ ih t ht
  rcases pi.1 ht with rfl|ht
  ·rw[h1];decide
  ·exact ih t ht
 ·intro k o u c x N a h1 h2 _ ih t ht
  rcases pi.1 ht with rfl|ht
  ·rw[h1];decide
  ·rcases pt.1 ht with ht|ht
   ·exact ih t ht
   ·obtain rfl:=pu.1 ht;rw[h2];decide
 ·intro k u o v x y N a _ h2 _ _ _ ihu ihv t ht
  rcases pt.1 ht with ht|ht
  ·exact ihu t ht
  ·rcases pi.1 ht with rfl|ht
   ·rw[h2];decide
   ·exact ihv t ht
 ·intro k u o v x y N a _ h2 _ _ _ ihu ihv t ht
  rcases pt.1 ht with ht|ht
  ·exact ihu t ht
  ·rcases pi.1 ht with rfl|ht
   ·rw[h2];decide
   ·exact ihv t ht
end gr
theorem vm(h:Gr k u x N a)(n:Nat)(hn:u.length<n):pW n u=x/\qN n u=true:=by
 refine Gr.ind (R:=fun _ u x _ _=>∀n,u.length<n->pW n u=x/\qN n u=true) ?_ ?_ ?_ ?_ ?_ h n hn
 ·intro k u N a h _ n hn
  obtain⟨n,rfl⟩:∃m,n=m+1:=⟨n-1,by omega⟩;have e1:yF u xW = -1:=jM xW (.inl rfl) u h.2 0 0 (-1);have e2:yF u yE = -1:=jM yE (.inr rfl) u h.2 0 0 (-1)
  have hp:tP (zS (u.getD 0 (0,[])).2):=by
   obtain⟨h1,h2⟩:=h
   cases u with
   | nil=>exact absurd rfl h1
   | cons t r=>exact h2 t (mw ..)
  have hl:0<u.length:=ft.2 h.1;rw[pW,qN,e1,e2,tg (by omega),tg (by omega),tg hp.2.2.2.2.2,tg hp.2.2.2.1,tg (by omega),tg (by omega),tg hp.2.2.2.2.2,tg hp.2.2.2.1];exact⟨rfl,tm hl⟩
 ·intro k t u x N a h1 h2 h3 ih n hn
  obtain⟨n,rfl⟩:∃m,n=m+1:=⟨n-1,by omega⟩;have hW:Gr 0 (t::u) (QK x) N a:=bH.neg _ _ _ _ _ _ h1 h2 h3;have e1:yF (t::u) xW = -1:=hW.out0 xW (.inl rfl) 0 (-1);have e2:yF (t::u) yE = -1:=hW.out0 yE (.inr rfl) 0 (-1);have hc:zS ((t::u).getD 0 (0,[])).2=yY:=h1;obtain⟨i1,i2⟩:=ih n (by simp at hn;omega);rw[pW,qN,e1,e2,tg (by omega),tg (by omega),tl hc,tg (by omega),tg (by omega),tl hc];simp only[List.drop_succ_cons,List.drop_zero,i1,i2,QK,p7];exact⟨trivial,by simp⟩
 ·intro k o u c x N a h1 h2 h3 ih n hn
  obtain⟨n,rfl⟩:∃m,n=m+1:=⟨n-1,by omega⟩;have e1:yF (o::(u++[c])) xW = -1:=dG xW (.inl rfl) h1 h2 h3 0 (-1);have e2:yF (o::(u++[c])) yE = -1:=dG yE (.inr rfl) h1 h2 h3 0 (-1);have hc:zS ((o::(u++[c])).getD 0 (0,[])).2=yQ:=h1;have hc':¬zS ((o::(u++[c])).getD 0 (0,[])).2=yY:=by rw[hc];decide
  have hp:=h3.pos;obtain⟨i1,i2⟩:=ih n (by simp at hn;omega);rw[pW,qN,e1,e2,tg (by omega),tg (by omega),tg hc',tl hc,tg (by omega),tg (by omega),tg hc',tl hc];have e3:((o::(u++[c])).drop 1).take ((o::(u++[c])).length-2)=u:=by simp
  rw[e3,i1,i2];refine⟨rfl,?_⟩;simp;omega
 ·intro k u t v x y N a h1 h2 h3 h4 h5 ihu ihv n hn
  obtain⟨n,rfl⟩:∃m,n=m+1:=⟨n-1,by omega⟩;have hW:Gr 1 (u++t::v) (UG x y) N a:=bH.and _ _ _ _ _ _ _ _ (t9 _) h2 h3 h4 h5;have e1:yF (u++t::v) xW = -1:=hW.out1 (t9 _) 0 (-1)
  have e2:yF (u++t::v) yE=u.length:=by
   unfold yF;rw[qW,h4.op,uZ,h2,cF,tl ⟨rfl,rfl⟩,h5.out0 yE (.inr rfl)];omega
  obtain⟨x1,x2⟩:=vp (n:=n) e1 e2;have hl:(u++t::v).length=u.length+1+v.length:=by simp;omega
  obtain⟨i1,i2⟩:=ihu n (by omega);obtain⟨j1,j2⟩:=ihv n (by omega);have t1:(u++t::v).take u.length=u:=by simp
  have t2:(u++t::v).drop (u.length+1)=v:=by simp
  rw[t1,t2,i1,j1]at x1;rw[t1,t2,i2,j2]at x2;exact⟨x1,x2⟩
 ·intro k u t v x y N a h1 h2 h3 h4 h5 ihu ihv n hn
  obtain⟨n,rfl⟩:∃m,n=m+1:=⟨n-1,by omega⟩
  have e2:yF (u++t::v) xW=u.length:=by
   unfold yF;rw[qW,h4.op,uZ,h2,rY,tl ⟨rfl,rfl⟩,h5.out1 (t9 _)];omega
  obtain⟨x1,x2⟩:=zBU (n:=n) e2;have hl:(u++t::v).length=u.length+1+v.length:=by simp;omega
  obtain⟨i1,i2⟩:=ihu n (by omega);obtain⟨j1,j2⟩:=ihv n (by omega);have t1:(u++t::v).take u.length=u:=by simp
  have t2:(u++t::v).drop (u.length+1)=v:=by simp
  rw[t1,t2,i1,j1]at x1;rw[t1,t2,i2,j2]at x2;exact⟨x1,x2⟩
theorem YX{M:List zX}(h:a<N.length):a<((N++M).length:Int):=by simp only[tq];omega
theorem Gr.ext(h:Gr k u x N a)(M:List zX):Gr k u x (N++M) a:=by
 refine Gr.ind (R:=fun k u x N a=>Gr k u x (N++M) a) ?_ ?_ ?_ ?_ ?_ h
 ·intro k u N a h1 h
  have e:kE (N++M) a.toNat=kE N a.toNat:=Ze (by have:=h.1;have:=h.2.1;omega);refine bH.test _ _ _ _ h1 ⟨h.1,YX h.2.1,?_⟩;rw[e];exact h.2.2
 ·intro k t u x N a h1 h _ ih
  have e:kE (N++M) a.toNat=kE N a.toNat:=Ze (by have:=h.1;have:=h.2.1;omega);have el:lf (N++M) a=lf N a:=by unfold lf;rw[e]
  exact bH.neg _ _ _ _ _ _ h1 ⟨h.1,YX h.2.1,by rw[e];exact h.2.2.1,by rw[el];exact h.2.2.2⟩ (by rw[el];exact ih)
 ·intro k o u c x N a h1 h2 _ ih;exact bH.br _ _ _ _ _ _ _ h1 h2 ih
 ·intro k u t v x y N a h1 h2 h _ _ ihu ihv
  have e:kE (N++M) a.toNat=kE N a.toNat:=Ze (by have:=h.1;have:=h.2.1;omega);have el:lf (N++M) a=lf N a:=by unfold lf;rw[e]
  have er:rg (N++M) a=rg N a:=by unfold rg;rw[e]
  exact bH.and _ _ _ _ _ _ _ _ h1 h2 ⟨h.1,YX h.2.1,by rw[e];exact h.2.2.1,by rw[el];exact h.2.2.2.1,by rw[er];exact h.2.2.2.2⟩ (by rw[el];exact ihu) (by rw[er];exact ihv)
 ·intro k u t v x y N a h1 h2 h _ _ ihu ihv
  have e:kE (N++M) a.toNat=kE N a.toNat:=Ze (by have:=h.1;have:=h.2.1;omega);have el:lf (N++M) a=lf N a:=by unfold lf;rw[e]
  have er:rg (N++M) a=rg N a:=by unfold rg;rw[e]
  exact bH.or _ _ _ _ _ _ _ _ h1 h2 ⟨h.1,YX h.2.1,by rw[e];exact h.2.2.1,by rw[el];exact h.2.2.2.1,by rw[er];exact h.2.2.2.2⟩ (by rw[el];exact ihu) (by rw[er];exact ihv)
theorem Gr.kind(h:Gr k u x N a):((kE N a.toNat).kind=1/\x.2=2)\/((kE N a.toNat).kind=2/\x.2=1)\/(¬(kE N a.toNat).kind=1/\¬(kE N a.toNat).kind=2/\x.2=0):=by
 refine Gr.ind (R:=fun _ _ x N a=>((kE N a.toNat).kind=1/\x.2=2)\/((kE N a.toNat).kind=2/\x.2=1)\/(¬(kE N a.toNat).kind=1/\¬(kE N a.toNat).kind=2/\x.2=0)) ?_ ?_ ?_ ?_ ?_ h
 ·intro k u N a _ h;have h3:=h.2.2.1;exact .inr (.inr ⟨by omega,by omega,rfl⟩)
 ·intro k t u x N a _ h _ _;have h3:=h.2.2.1;exact .inr (.inr ⟨by omega,by omega,rfl⟩)
 ·intro k o u c x N a _ _ _ ih;exact ih
 ·intro k u t v x y N a _ _ h _ _ _ _;exact .inr (.inl ⟨h.2.2.1,rfl⟩)
 ·intro k u t v x y N a _ _ h _ _ _ _;exact .inl ⟨h.2.2.1,rfl⟩
theorem Dv(hr:Gr k u x N a){f:Nat->fT->fT}(hf:∀st,f a.toNat st=yV x.1 st)(st:fT):Dw N f a.toNat st=yV (if x.2=2 then Bd x.1 else x.1) st:=by
 unfold Dw;rcases hr.kind with ⟨h1,h2⟩|⟨h1,h2⟩|⟨h1,_,h2⟩
 ·rw[tl h1,tl h2,hf,Xi]
 ·rw[tg (by omega),tg (by omega),hf]
 ·rw[tg h1,tg (by omega),hf]
theorem zFZ(hr:Gr k u x N a){f:Nat->fT->fT}(hf:∀st,f a.toNat st=yV x.1 st)(st:fT):zG0 N f a.toNat st=yV (if 0<x.2 then Bd x.1 else x.1) st:=by
 unfold zG0;rcases hr.kind with ⟨h1,h2⟩|⟨h1,h2⟩|⟨h1,h3,h2⟩
 ·rw[tl (.inl h1),tl (by omega),hf,Xi]
 ·rw[tl (.inr h1),tl (by omega),hf,Xi]
 ·rw[tg (by omega),tg (by omega),hf]
theorem w_gr(h:Gr k u x N a)(m:Nat)(st:fT)(hm:a.toNat<m):gX N m a.toNat st=yV x.1 st:=by
 refine Gr.ind (R:=fun _ _ x N a=>∀(m:Nat) (st:fT),a.toNat<m->gX N m a.toNat st=yV x.1 st) ?_ ?_ ?_ ?_ ?_ h m st hm
 ·intro k u N a hk h m st hm
  obtain⟨m,rfl⟩:∃j,m=j+1:=⟨m-1,by omega⟩;have h3:=h.2.2.1;rw[gX,tg (by omega),tg (by omega),tg (by omega),h.2.2.2.1,oA hk.1]
 ·intro k t u x N a _ h hg ih m st hm
  obtain⟨m,rfl⟩:∃j,m=j+1:=⟨m-1,by omega⟩;have h3:=h.2.2.1;have hb:=hg.bound;have hl:=h.2.2.2;rw[gX,tg (by omega),tg (by omega),tl h3,zFZ hg (fun st=>ih m st (by omega)),<-lI,QK];rfl
 ·intro k o u c x N a _ _ _ ih;exact ih
 ·intro k u t v x y N a _ _ h hu hv ihu ihv m st hm
  obtain⟨m,rfl⟩:∃j,m=j+1:=⟨m-1,by omega⟩;obtain⟨h1,h2,h3,h4,h5⟩:=h;have hb:=hu.bound;have hc:=hv.bound;rw[gX,tg (by omega),tl h3,Dv hv (fun st=>ihv m st (by omega)),Dv hu (fun st=>ihu m st (by omega)),<-lI,<-lI,UG];simp[yE]
 ·intro k u t v x y N a _ _ h hu hv ihu ihv m st hm
  obtain⟨m,rfl⟩:∃j,m=j+1:=⟨m-1,by omega⟩;obtain⟨h1,h2,h3,h4,h5⟩:=h;have hb:=hu.bound;have hc:=hv.bound;rw[gX,tl h3,ihu m _ (by omega),ihv m _ (by omega),<-lI,<-lI,orT];simp[xW]
theorem YN{c:UInt8}(h:so c=2):48<=c.toNat/\c.toNat<=57:=by
 unfold so tV at h;split at h
 ·omega
 ·split at h
  ·omega
  ·split at h <;> omega
def QC:Nat->List Nat->Nat
 | a,[]=>a
 | a,d::r=>QC (10*a+d) r
def ZV(s:Bs):List Nat:=s.map fun c=>c.toNat-48
theorem QW(a:Int)(c:UInt8)(r:Bs):xD a (c::r)=xD (10*a+((c.toNat:Int)-48)) r:=rfl
theorem zFC:∀(a:Nat),(∀c∈s,so c=2)->xD a s=QC a (ZV s):=by
 induction s with
 | nil=>intro a _;rfl
 | cons c r ih =>
   intro a h;have h1:=YN (h c (mw ..));have h2:=ih (10*a+(c.toNat-48)) (fun x hx=>h x (cd _ hx));unfold ZV at h2 ⊢;rw[QW,dm,QC,<-h2];congr 1;omega
theorem zBS(s:List Nat):∀(a:Nat),(∀d∈s,d<=9)->QC a s+1<=(a+1)*10 ^ s.length:=by
 induction s with
 | nil=>intro a _;simp[QC]
 | cons d r ih =>
   intro a h;have h1:=h d (mw ..);rw[QC,p7,Nat.pow_succ];have h2:=ih (10*a+d) (fun x hx=>h x (cd _ hx));refine tx h2 ?_;have h3:(10*a+d+1)<=(a+1)*10:=by omega
   have h4:=Nat.mul_le_mul_right (10 ^ r.length) h3;rw[Nat.mul_assoc]at h4;rw[Nat.mul_comm (10 ^ r.length) 10];exact h4
theorem Fe(h:∀c∈s,so c=2):∀d∈ZV s,d<=9:=by
 intro d hd;unfold ZV at hd;obtain⟨c,hc,rfl⟩:=ml.1 hd;have h1:=YN (h c hc);omega
theorem zAH{u d:Nat}(h:1<=u)(hd:d<10):Lib.decDigits (10*u+d)=Lib.decDigits u++[UInt8.ofNat (48+d)]:=by
 rw[Lib.decDigits,dif_neg (by omega),show (10*u+d)/10=u by omega,show (10*u+d)%10=d by omega]
theorem zy{c:UInt8}(h:48<=c.toNat):UInt8.ofNat (48+(c.toNat-48))=c:=by
 rw[show 48+(c.toNat-48)=c.toNat by omega];simp
theorem zDZ(s:List Nat):∀(a:Nat),1<=a->(∀d∈s,d<=9)->Lib.decDigits (QC a s)=Lib.decDigits a++s.map (fun d=>UInt8.ofNat (48+d)):=by
 induction s with
 | nil=>intro a _ _;simp[QC]
 | cons d r ih =>
   intro a ha h;have h1:=h d (mw ..);rw[QC,ih _ (by omega) (fun x hx=>h x (cd _ hx)),zAH ha (by omega)];simp
theorem zg(h:∀c∈s,so c=2):(ZV s).map (fun d=>UInt8.ofNat (48+d))=s:=by
 induction s with
 | nil=>rfl
 | cons c r ih =>
   have h1:=YN (h c (mw ..));have h2:=ih (fun x hx=>h x (cd _ hx));unfold ZV at h2 ⊢;rw[dm,dm,h2,zy h1.1]
def UL(s:Bs):Prop:=s≠[]/\(so (s.getD 0 0)=2->∀c∈s,so c=2)
theorem X9{s:Bs}(h:UL s)(hc:zS s=yB):(0<=xD 0 s/\xD 0 s<=9999)/\Lib.itoa (xD 0 s)=s:=by
 have hk:=(oO s).2 hc;unfold vU at hk;split at hk
 ·split at hk
  ·exact absurd hk (by decide)
  ·split at hk <;> exact absurd hk (by decide)
 ·split at hk
  ·rename_i _ h2
   split at hk
   ·exact absurd hk (by decide)
   ·rename_i h3
    have hd:=h.2 h2;have e:=zFC s 0 hd;have hl:=zBS (ZV s) 0 (Fe s hd);have hln:(ZV s).length=s.length:=by simp[ZV]
    rw[hln]at hl;have h4:s.length<=4:=by omega
    have h5:10 ^ s.length<=10 ^ 4:=Nat.pow_le_pow_right (by decide) h4;refine⟨⟨by rw[show (0:Int)=((0:Nat):Int) from rfl,e];omega,by rw[show (0:Int)=((0:Nat):Int) from rfl,e];omega⟩,?_⟩;rw[show (0:Int)=((0:Nat):Int) from rfl,e,Lib.itoa,tg (by omega),Int.toNat_natCast];have hb:=zg s hd;have hle:=Fe s hd
    cases hs:s with
    | nil=>exact absurd hs h.1
    | cons c r =>
      rw[hs]at hd hb hle h3;have h6:=YN (hd c (mw ..));have ed:ZV (c::r)=(c.toNat-48)::ZV r:=by unfold ZV;rw[dm]
      rw[ed]at hb hle ⊢;rw[QC];generalize hz:c.toNat-48=z at hb hle ⊢;by_cases hz0:z=0
      ·have hc0:c=48:=by
        apply UInt8.toNat_inj.1;show c.toNat=48;omega
       have hr:r=[]:=by
        cases r with
        | nil=>rfl
        | cons x y=>exact absurd (Or.inr ⟨by simp,by simpa using hc0⟩) h3
       subst hr;rw[hz0,hc0];show Lib.decDigits 0=[48];rw[Lib.decDigits,dif_pos (by omega)];rfl
      ·rw[zDZ (ZV r) _ (by omega) (fun x hx=>hle x (cd _ hx)),Lib.decDigits,dif_pos (by have:=hle z (mw ..);omega),show 10*0+z=z by omega]
       rw[dm]at hb;exact hb
  ·split at hk <;> exact absurd hk (by decide)
theorem FH(k:Int)(l:Bs):∀c∈l.take (tJ k l),so c=k:=by
 induction l with
 | nil=>intro c h;simp at h
 | cons x r ih =>
   intro c h;rw[tJ]at h;split at h
   ·rename_i hx
    rw[List.take_succ_cons]at h;rcases pi.1 h with rfl|h
    ·exact hx
    ·exact ih c h
   ·simp at h
theorem FZ:∀(l:Bs) (p:Nat),∀t∈tC n l p,UL t.2:=by
 induction n with
 | zero=>intro l p t h;simp[tC]at h
 | succ n ih =>
   intro l p t h;rw[tC]at h;split at h
   ·simp at h
   ·split at h
    ·exact ih _ _ t h
    ·rename_i h0 _
     rcases pi.1 h with rfl|h
     ·cases l with
      | nil=>exact absurd rfl h0
      | cons c r =>
        have hp:=nF (c::r);obtain⟨m,hm⟩:∃m,uC (c::r)=m+1:=⟨uC (c::r)-1,by omega⟩;simp only[hm,List.take_succ_cons];refine⟨by simp,?_⟩;intro hs;have hs':so c=2:=hs
        have e:m=tJ 2 r:=by
         unfold uC at hm;simp only[List.getD_cons_zero,hs',List.drop_succ_cons,List.drop_zero]at hm;rw[tg (by decide)]at hm;omega
        intro x hx;rcases pi.1 hx with rfl|hx
        ·exact hs'
        ·exact FH 2 r x (by rw[<-e];exact hx)
     ·exact ih _ _ t h
def fQ(ts:zG):Prop:=∀t∈ts,UL t.2
theorem QX(l:Bs):fQ (yR l 0):=FZ _ _ _
theorem fQ.at'(h:fQ ts)(hi:i<ts.length):UL (tA ts i):=by
 unfold tA;rw[List.getD,pe hi];exact h _ (List.getElem_mem hi)
theorem zu:∀c∈jC,tP c/\c.isEmpty=false:=by decide
def bK:Bs:=[102,97,99,116]
def Kb:Bs:=[104,97,115]
def uj:Bs:=[116,104,97,110]
def Zm:Bs:=[97,108,119,97,121,115]
theorem zAJ(i:Nat):vV P (i,true)=([],(i,true)):=by
 unfold vV;split <;> rfl
def zI2(x:zX)(u:zG):Prop:=(4<=x.kind/\x.kind<=7)/\(0<=x.num/\x.num<=9999)/\(∀st,Vf x st=jA u st)/\zEY x u
abbrev TT(ts:zG)(i:Nat):Nat × Bs:=ts.getD i (0,[])
theorem Co:jR bK=[yY,yQ,Zm,Kb,yU]:=by decide
theorem Gv:jR Kb=[yU]:=by decide
theorem Ck:jR uj=[yU,yB]:=by decide
theorem zBV{c:Bs}{op:Int}(h:c∈jC):zO uV c op=uj/\opn c op=op:=by
 simp only[jC,pi,l9,dn]at h;rcases h with rfl|rfl|rfl|rfl|rfl|rfl <;> exact⟨rfl,rfl⟩
def zEE(ts:zG)(len i:Nat)(op:Int)(r:zX × St):Prop :=
 (r.2.2=true/\FA ts len i bK op=((yW (pp ts len) r.2.1).p:Int)) \/
 (r.2.2=false/\i<r.2.1/\r.2.1<=ts.length/\FA ts len i bK op=FA ts len r.2.1 qJ op/\∃u,ts.drop i=u++ts.drop r.2.1/\JU u/\zI2 r.1 u/\rB u (VA r.1))
theorem iS:∀c∈jC,c≠yU/\c≠[104,97,115]:=by decide
theorem Zb{p nx:Bs}(hp:p≠[104,97,115])(h:p∈jC\/nx∈jC):mW p nx=2:=by unfold mW;rw[tg hp,tl h]
theorem Kr{p nx:Bs}(hp:neut p)(h:nx ∉ jC):mW p nx=3:=by unfold mW;rw[tg hp.1,tg (by rintro(h' | h');exact hp.2 h';exact h h')]
theorem vr{len:Nat}(zIW:fQ ts)(h:i<=ts.length)(op:Int)(hn:cA ts i≠yY)(ho:cA ts i≠yQ):zEE ts len i op (vA (pp ts len) (i,false)):=by
 rcases cW (len:=len) h (t:=Zm) (by decide) with ⟨hc,hi,e⟩|⟨hc,e⟩
 ·have hw:=(cQ (by decide) hc).2
  have e':vA (pp ts len) (i,false)=(⟨4,0,0,[],[],[],0⟩,(i+1,false)):=by
   unfold Zm at e;simp only[vA,e]
  rw[e'];refine .inr ⟨rfl,mh _,hi,qE hi hc rfl (by decide) rfl,[TT ts i],zJ ts i hi,⟨by simp,?_⟩,⟨by simp,by simp,?_,.inl ⟨rfl,_,rfl,hc⟩⟩,?_⟩
  ·intro t ht;obtain rfl:=pu.1 ht
   show tP (cA ts i);rw[hc];decide
  ·intro st;show yV _ st=yV (tA ts i) st;rw[hw];rfl
  ·intro p nx _ _
   have h8:zS (TT ts i).2=Zm:=hc;rw[qX,h8,tg (by decide),qX];rfl
 unfold Zm at e;rcases cW (len:=len) h (t:=Kb) (by decide) with ⟨hc2,hi,e2⟩|⟨hc2,e2⟩
 ·have hw:=(cQ (by decide) hc2).2
  unfold Kb at e2;have hf:FA ts len i bK op=FA ts len (i+1) Kb op:=qE hi hc2 rfl (by decide) rfl;rcases fJ (len:=len) (show i+1<=ts.length from hi) with ⟨hc3,hi3,e3⟩|⟨hc3,e3⟩
  ·have e':vA (pp ts len) (i,false)=(⟨5,0,0,tA ts (i+1),[],[],0⟩,(i+1+1,false)):=by
    simp only[vA,e,e2,e3]
   rw[e'];refine .inr ⟨rfl,(by show i<i+1+1;omega),hi3,hf.trans (qE hi3 hc3 rfl (by decide) rfl),[TT ts i,TT ts (i+1)],?_,⟨by simp,?_⟩,⟨by simp,by simp,?_,.inr (.inl ⟨rfl,_,_,rfl,hc2,hc3,rfl⟩)⟩,?_⟩
   ·rw[zJ ts i hi,zJ ts (i+1) hi3];rfl
   ·intro t ht
    simp only[pi,l9,dn]at ht;rcases ht with rfl|rfl
    ·show tP (cA ts i);rw[hc2];decide
    ·show tP (cA ts (i+1));rw[hc3];decide
   ·intro st;show yV _ (yV _ st)=yV (tA ts (i+1)) (yV (tA ts i) st);rw[hw];rfl
   ·intro p nx _ _
    have h8:zS (TT ts i).2=Kb:=hc2;have h9:zS (TT ts (i+1)).2=yU:=hc3;rw[qX,h8,tg (by decide),qX,h9,tl rfl,qX];show []++([(mW Kb nx,tA ts (i+1))]++[])=_;rw[show mW Kb nx=1 from tl rfl];rfl
  ·have e':(vA (pp ts len) (i,false)).2=(i+1,true):=by
    simp only[vA,e,e2,e3]
   refine .inl ⟨by rw[e'],?_⟩;rw[e',hf];exact gV hi (mV (by decide) (by decide) (by rw[Gv];simpa using hc3)) (.inr (by decide))
 unfold Kb at e2;rcases fJ (len:=len) h with ⟨hc3,hi3,e3⟩|⟨hc3,e3⟩
 ·have hf:FA ts len i bK op=FA ts len (i+1) uV op:=qE hi3 hc3 rfl (by decide) rfl
  rcases zGO (len:=len) (show i+1<=ts.length from hi3) with ⟨hc4,hi4,hw4,e4⟩|⟨hc4,e4⟩
  ·obtain⟨n1,n2⟩:=zBV (op:=op) hc4
   obtain⟨q1,q2⟩:=zu _ hc4;have hf2:FA ts len i bK op=FA ts len (i+1+1) uj op:=hf.trans (qE hi4 rfl n1 (by decide) n2);have hi5:i+1+1<=ts.length:=hi4;rcases wY (len:=len) hi5 with ⟨hc6,hi6,e6⟩|⟨hc6,e6⟩
   ·have e5:=YZ (len:=len) hi5 false
    rw[tm hc6]at e5
    have e':vA (pp ts len) (i,false)=(⟨7,0,0,tA ts i,cA ts (i+1),[],xD 0 (tA ts (i+1+1))⟩,(i+1+1+1,false)):=by
     simp only[vA,e,e2,e3,e4,q2,e5,e6]
    obtain⟨v1,v2⟩:=X9 (zIW.at' hi6) hc6;rw[e'];refine .inr ⟨rfl,(by show i<i+1+1+1;omega),hi6,hf2.trans (qE hi6 hc6 rfl (by decide) rfl),[TT ts i,TT ts (i+1),TT ts (i+1+1)],?_,⟨by simp,?_⟩,⟨by simp,v1,?_,.inr (.inr (.inr ⟨rfl,_,_,_,rfl,hc3,rfl,(by show tA ts (i+1)∈jC;rw[hw4];exact hc4),hw4.symm,.inl ⟨hc6,rfl,rfl⟩⟩))⟩,?_⟩
    ·rw[zJ ts i hi3,zJ ts (i+1) hi4,zJ ts (i+1+1) hi6];rfl
    ·intro t ht
     simp only[pi,l9,dn]at ht;rcases ht with rfl|rfl|rfl
     ·show tP (cA ts i);rw[hc3];decide
     ·exact q1
     ·show tP (cA ts (i+1+1));rw[hc6];decide
    ·intro st
     show eK (xD 0 (tA ts (i+1+1))) (yV (cA ts (i+1)) (yV (tA ts i) st))=yV (tA ts (i+1+1)) (yV (tA ts (i+1)) (yV (tA ts i) st));rw[eK,v2,hw4]
    ·intro p nx hp _
     have h7:zS (TT ts i).2=yU:=hc3;have h8:zS (TT ts (i+1)).2≠yU:=(iS _ hc4).1;have h9:zS (TT ts (i+1+1)).2=yB:=hc6;rw[qX,h7,tl rfl,qX,tg h8,qX,h9,tg (by decide),qX];show [(mW p (cA ts (i+1)),tA ts i)]++([]++([]++[]))=_;rw[Zb hp.1 (.inr hc4)];rfl
   ·have e5:=YZ (len:=len) hi5 false
    rw[th hc6]at e5;rcases fJ (len:=len) hi5 with ⟨hc7,hi7,e7⟩|⟨hc7,e7⟩
    ·have e':vA (pp ts len) (i,false)=(⟨7,0,0,tA ts i,cA ts (i+1),tA ts (i+1+1),0⟩,(i+1+1+1,false)):=by
      simp only[vA,e,e2,e3,e4,q2,e5,e7]
     have zIH:(tA ts (i+1+1)).isEmpty=false:=by
      have:=(zIW.at' hi7).1
      cases hx:tA ts (i+1+1) with
      | nil=>exact absurd hx this
      | cons a b=>rfl
     rw[e'];refine .inr ⟨rfl,(by show i<i+1+1+1;omega),hi7,hf2.trans (qE hi7 hc7 rfl (by decide) rfl),[TT ts i,TT ts (i+1),TT ts (i+1+1)],?_,⟨by simp,?_⟩,⟨by simp,by simp,?_,.inr (.inr (.inr ⟨rfl,_,_,_,rfl,hc3,rfl,(by show tA ts (i+1)∈jC;rw[hw4];exact hc4),hw4.symm,.inr ⟨hc7,rfl,(zIW.at' hi7).1⟩⟩))⟩,?_⟩
     ·rw[zJ ts i hi3,zJ ts (i+1) hi4,zJ ts (i+1+1) hi7];rfl
     ·intro t ht
      simp only[pi,l9,dn]at ht;rcases ht with rfl|rfl|rfl
      ·show tP (cA ts i);rw[hc3];decide
      ·exact q1
      ·show tP (cA ts (i+1+1));rw[hc7];decide
     ·intro st
      show Vf ⟨7,0,0,tA ts i,cA ts (i+1),tA ts (i+1+1),0⟩ st=yV (tA ts (i+1+1)) (yV (tA ts (i+1)) (yV (tA ts i) st));rw[hw4];unfold Vf;simp only[zIH];rfl
     ·intro p nx hp _
      have h7:zS (TT ts i).2=yU:=hc3;have h8:zS (TT ts (i+1)).2≠yU:=(iS _ hc4).1;have h9:zS (TT ts (i+1+1)).2=yU:=hc7;rw[qX,h7,tl rfl,qX,tg h8,qX,h9,tl rfl,qX];show [(mW p (cA ts (i+1)),tA ts i)]++([]++([(mW (cA ts (i+1)) nx,tA ts (i+1+1))]++[]))=(2,tA ts i)::(if tA ts (i+1+1)=[] then [] else [(2,tA ts (i+1+1))]);rw[Zb hp.1 (.inr hc4),Zb (iS _ hc4).2 (.inl hc4),tg (zIW.at' hi7).1];rfl
    ·have e':(vA (pp ts len) (i,false)).2=(i+1+1,true):=by
      simp only[vA,e,e2,e3,e4,q2,e5,e7]
     refine .inl ⟨by rw[e'],?_⟩;rw[e',hf2];exact gV hi5 (mV (by decide) (by decide) (by rw[Ck];simp[hc6,hc7])) (.inr (by decide))
  ·have e':vA (pp ts len) (i,false)=(⟨6,0,0,tA ts i,[],[],0⟩,(i+1,false)):=by
    simp only[vA,e,e2,e3,e4,List.isEmpty_nil]
   rw[e'];refine .inr ⟨rfl,mh _,hi3,hf.trans (zBD hc4),[TT ts i],zJ ts i hi3,⟨by simp,?_⟩,⟨by simp,by simp,?_,.inr (.inr (.inl ⟨rfl,_,rfl,hc3,rfl⟩))⟩,?_⟩
   ·intro t ht;obtain rfl:=pu.1 ht
    show tP (cA ts i);rw[hc3];decide
   ·intro st;rfl
   ·intro p nx hp hx
    have h7:zS (TT ts i).2=yU:=hc3;rw[qX,h7,tl rfl,qX];show [(mW p nx,tA ts i)]++[]=_;rw[Kr hp hx];rfl
 ·have e':(vA (pp ts len) (i,false)).2=(i,true):=by
   simp only[vA,e,e2,e3,zAJ,List.isEmpty_nil]
  refine .inl ⟨by rw[e'],?_⟩;rw[e'];exact gV h (mV (by decide) (by decide) (by rw[Co];simp[hn,ho,hc,hc2,hc3])) (.inr (by decide))
theorem Zd(N:List zX)(z:zX):kE (N++[z]) N.length=z:=by
 unfold kE;simp[List.getD]
def Cf(z:zX)(a:Int):Prop :=
 (z.kind=1->0<=z.left/\z.left<a/\0<=z.right/\z.right<a) /\
 (z.kind=2->0<=z.left/\z.left<a/\0<=z.right/\z.right<a) /\
 (z.kind=3->0<=z.left/\z.left<a) /\
 (¬z.kind=1->¬z.kind=2->¬z.kind=3->(4<=z.kind/\z.kind<=7)/\0<=z.num/\z.num<=9999)
theorem cT.add{z:zX}(h:cT N)(hz:Cf z N.length):cT (N++[z]):=by
 intro a ha;rcases po a N.length with h1|h1
 ·rw[Ze h1];exact h a h1
 ·have e:a=N.length:=by rw[tq,pd]at ha;omega
  subst e;rw[Zd];exact hz
theorem aL:cT []:=by intro a ha;exact absurd ha (by simp)
def aZ(u:zG)(y:Int × Int):Prop:=∀n,u.length<n->yD n u=y
theorem zBP(h:JU u):aZ u (1,0):=by
 intro n hn;obtain⟨n,rfl⟩:∃m,n=m+1:=⟨n-1,by omega⟩;have e1:yF u xW = -1:=jM xW (.inl rfl) u h.2 0 0 (-1);have e2:yF u yE = -1:=jM yE (.inr rfl) u h.2 0 0 (-1)
 have hp:tP (zS (u.getD 0 (0,[])).2):=by
  obtain⟨h1,h2⟩:=h
  cases u with
  | nil=>exact absurd rfl h1
  | cons t r=>exact h2 t (mw ..)
 rw[yD,e1,e2,tg (by omega),tg (by omega),tg hp.2.2.2.2.2,tg hp.2.2.2.1]
theorem zF8{y:Int × Int}(h1:zS t.2=yY)(hW:Gr 0 (t::u) x N a)(hy:aZ u y):aZ (t::u) (y.1,y.2+1):=by
 intro n hn;obtain⟨n,rfl⟩:∃m,n=m+1:=⟨n-1,by omega⟩;have e1:yF (t::u) xW = -1:=hW.out0 xW (.inl rfl) 0 (-1);have e2:yF (t::u) yE = -1:=hW.out0 yE (.inr rfl) 0 (-1);have hc:zS ((t::u).getD 0 (0,[])).2=yY:=h1;rw[yD,e1,e2,tg (by omega),tg (by omega),tl hc];simp only[List.drop_succ_cons,List.drop_zero,hy n (by simp at hn;omega)]
theorem zHI{o c:Nat × Bs}{y:Int × Int}(h1:zS o.2=yQ)(h2:zS c.2=xS)(h3:Gr k u x N a)(hy:aZ u y):aZ (o::(u++[c])) (y.1,y.2+1):=by
 intro n hn;obtain⟨n,rfl⟩:∃m,n=m+1:=⟨n-1,by omega⟩;have e1:yF (o::(u++[c])) xW = -1:=dG xW (.inl rfl) h1 h2 h3 0 (-1);have e2:yF (o::(u++[c])) yE = -1:=dG yE (.inr rfl) h1 h2 h3 0 (-1);have hc:zS ((o::(u++[c])).getD 0 (0,[])).2=yQ:=h1;have hc':¬zS ((o::(u++[c])).getD 0 (0,[])).2=yY:=by rw[hc];decide
 rw[yD,e1,e2,tg (by omega),tg (by omega),tg hc',tl hc];have e3:((o::(u++[c])).drop 1).take ((o::(u++[c])).length-2)=u:=by simp
 rw[e3,hy n (by simp at hn;omega)]
theorem zF9{v:zG}{y:Bs × Int}{b:Int}{p q:Int × Int}(h2:zS t.2=yE)(h4:Gr 1 u x N a)(h5:Gr 0 v y N b)(hp:aZ u p)(hq:aZ v q):aZ (u++t::v) (pV p q):=by
 intro n hn;obtain⟨n,rfl⟩:∃m,n=m+1:=⟨n-1,by omega⟩
 have e1:yF (u++t::v) xW = -1:=by
  unfold yF;rw[qW,h4.op,uZ,h2,cF,tg (by rintro⟨_,h⟩;exact absurd h (by decide)),h5.out1 (by decide),h4.out1 (t9 _)]
 have e2:yF (u++t::v) yE=u.length:=by
  unfold yF;rw[qW,h4.op,uZ,h2,cF,tl ⟨rfl,rfl⟩,h5.out0 yE (.inr rfl)];omega
 have hl:(u++t::v).length=u.length+1+v.length:=by simp;omega
 have t1:(u++t::v).take u.length=u:=by simp
 have t2:(u++t::v).drop (u.length+1)=v:=by simp
 rw[yD,e1,e2,tg (by omega),tl (Int.natCast_nonneg _),Int.toNat_natCast,t1,t2,hp n (by omega),hq n (by omega)]
theorem zHH{v:zG}{y:Bs × Int}{b:Int}{p q:Int × Int}(h2:zS t.2=xW)(h4:Gr 2 u x N a)(h5:Gr 1 v y N b)(hp:aZ u p)(hq:aZ v q):aZ (u++t::v) (pV p q):=by
 intro n hn;obtain⟨n,rfl⟩:∃m,n=m+1:=⟨n-1,by omega⟩
 have e2:yF (u++t::v) xW=u.length:=by
  unfold yF;rw[qW,h4.op,uZ,h2,rY,tl ⟨rfl,rfl⟩,h5.out1 (t9 _)];omega
 have hl:(u++t::v).length=u.length+1+v.length:=by simp;omega
 have t1:(u++t::v).take u.length=u:=by simp
 have t2:(u++t::v).drop (u.length+1)=v:=by simp
 rw[yD,e2,tl (Int.natCast_nonneg _),Int.toNat_natCast,t1,t2,hp n (by omega),hq n (by omega)]
def Wt(q:GS)(d:Int)(q':GS)(u:zG):Prop :=
 ∃y L,aZ u y/\0<=y.2/\q'.tests=q.tests+y.1/\(q.dep<=q'.dep/\d+y.2<=q'.dep/\(q'.dep=q.dep\/q'.dep=d+y.2))/\rB u L/\tE q'.nd=tE q.nd++L
def UV(ts:zG)(len k i:Nat)(op d:Int)(q:GS)(r:Int × GS):Prop :=
 (r.2.s.2=true/\FA ts len i bK op=((yW (pp ts len) r.2.s.1).p:Int)) \/
 (r.2.s.2=false/\i<r.2.s.1/\r.2.s.1<=ts.length/\FA ts len i bK op=FA ts len r.2.s.1 qJ op/\(∃M,r.2.nd=q.nd++M)/\cT r.2.nd /\
  (1<=k->cA ts r.2.s.1≠yE)/\(2<=k->cA ts r.2.s.1≠xW) /\
  ∃u x,Gr k u x r.2.nd r.1/\ts.drop i=u++ts.drop r.2.s.1/\Wt q d r.2 u)
theorem mX(item:GS->Int × GS)(tok:Bs)(kind:Int)(k:Nat)(left:Int)(q:GS)(h:q.s.2=true):(mY P item tok kind k left q).2.s=q.s:=by
 cases k with
 | zero=>rfl
 | succ k =>
   obtain⟨⟨i,f⟩,nd,te,de⟩:=q;obtain rfl:f=true:=h;rw[mY];rfl
structure zBB(tok:Bs)(kind:Int)(j:Nat):Prop where
 kw:tok∈zDE
 next:∀op,zO qJ tok op=bK
 opn:∀op,opn tok op=op
 node:∀a l r,0<=l->l<a->0<=r->r<a->Cf ⟨kind,l,r,[],[],[],0⟩ a
 make:∀N u t v x y l r,zS t.2=tok->l<(N.length:Int)->r<(N.length:Int)->Gr (j+1) u x (N++[⟨kind,l,r,[],[],[],0⟩]) l->Gr j v y (N++[⟨kind,l,r,[],[],[],0⟩]) r ->
  ∃z,Gr (j+1) (u++t::v) z (N++[⟨kind,l,r,[],[],[],0⟩]) N.length
 wt:∀u t v x y N a b p q,zS t.2=tok->Gr (j+1) u x N a->Gr j v y N b->aZ u p->aZ v q->aZ (u++t::v) (pV p q)
 neut:tok≠yU/\neut tok
 kind:kind=1\/kind=2
 exits:∀c,c≠tok->(1<=j->c≠yE)->(1<=j+1->c≠yE)/\(2<=j+1->c≠xW)
theorem UD(kind l r:Int)(N:List zX)(hl:l<(N.length:Int))(hr:r<(N.length:Int)):zBF kind (N++[⟨kind,l,r,[],[],[],0⟩]) N.length/\lf (N++[⟨kind,l,r,[],[],[],0⟩]) N.length=l/\rg (N++[⟨kind,l,r,[],[],[],0⟩]) N.length=r:=by
 have e:kE (N++[⟨kind,l,r,[],[],[],0⟩]) (N.length:Int).toNat=⟨kind,l,r,[],[],[],0⟩:=by rw[Int.toNat_natCast];exact Zd _ _
 have el:lf (N++[⟨kind,l,r,[],[],[],0⟩]) N.length=l:=by unfold lf;rw[e]
 have er:rg (N++[⟨kind,l,r,[],[],[],0⟩]) N.length=r:=by unfold rg;rw[e]
 exact⟨⟨by omega,by simp only[tq,pd];omega,by rw[e],by rw[el];exact hl,by rw[er];exact hr⟩,el,er⟩
theorem GA:zBB yE 2 0:={
 kw:=by decide
 next:=fun op=>by rw[aE,tg (by rintro(⟨h,_⟩|⟨h,_⟩) <;> exact absurd h (by decide))];decide
 opn:=cF
 node:=fun a l r h1 h2 h3 h4=>⟨fun e=>absurd (show (2:Int)=1 from e) (by decide),fun _=>⟨h1,h2,h3,h4⟩,fun e=>absurd (show (2:Int)=3 from e) (by decide),fun _ e=>absurd rfl e⟩
 make:=fun N u t v x y l r hc hl hr h1 h2=>by
  obtain⟨hb,el,er⟩:=UD 2 l r N hl hr;exact⟨UG x y,bH.and _ _ _ _ _ _ _ _ (t9 _) hc hb (by rw[el];exact h1) (by rw[er];exact h2)⟩
 wt:=fun u t v x y N a b p q h1 h2 h3=>zF9 h1 h2 h3
 neut:=⟨by decide,by decide,by decide⟩
 kind:=.inr rfl
 exits:=fun c h _=>⟨fun _=>h,fun h=>absurd h (by decide)⟩ }
theorem jr:zBB xW 1 1:={
 kw:=by decide
 next:=fun op=>by rw[aE,tg (by rintro(⟨h,_⟩|⟨h,_⟩) <;> exact absurd h (by decide))];decide
 opn:=rY
 node:=fun a l r h1 h2 h3 h4=>⟨fun _=>⟨h1,h2,h3,h4⟩,fun e=>absurd (show (1:Int)=2 from e) (by decide),fun e=>absurd (show (1:Int)=3 from e) (by decide),fun e=>absurd rfl e⟩
 make:=fun N u t v x y l r hc hl hr h1 h2=>by
  obtain⟨hb,el,er⟩:=UD 1 l r N hl hr;exact⟨orT x y,bH.or _ _ _ _ _ _ _ _ (t9 _) hc hb (by rw[el];exact h1) (by rw[er];exact h2)⟩
 wt:=fun u t v x y N a b p q h1 h2 h3=>zHH h1 h2 h3
 neut:=⟨by decide,by decide,by decide⟩
 kind:=.inl rfl
 exits:=fun c h h2=>⟨fun _=>h2 (by decide),fun _=>h⟩ }
theorem VL{len n j:Nat}{op:Int}{q0:GS}{tok:Bs}{kind:Int}{item:GS->Int × GS}(J:zBB tok kind j)
 (hitem:∀(q:GS) (i:Nat),q.s=(i,false)->i<=ts.length->ts.length+1-i<=n->cT q.nd->UV ts len j i op d q (item q)) (k:Nat) :
 ∀(left:Int) (q:GS) (i':Nat) (u:zG) (x:Bs × Int),q.s=(i',false)->i<i'->i'<=ts.length->ts.length+1-i'<=n->ts.length+1-i'<=k->FA ts len i bK op=FA ts len i' qJ op->(∃M,q.nd=q0.nd++M)->cT q.nd ->
  (1<=j->cA ts i'≠yE)->Gr (j+1) u x q.nd left->ts.drop i=u++ts.drop i'->Wt q0 d q u->UV ts len (j+1) i op d q0 (mY (pp ts len) item tok kind k left q):=by
 induction k with
 | zero=>intro left q i' u x _ _ h1 _ h2;omega
 | succ k ih =>
   intro left q i' u x hq zI6 hle hn hk hf hM hg hx1 hr hd hwt;rw[mY,hq];rcases cW (len:=len) hle J.kw with ⟨hc,hi,e⟩|⟨hc,e⟩
   ·rw[e]
    simp only;have hf2:FA ts len i bK op=FA ts len (i'+1) bK op:=hf.trans (qE hi hc (J.next op) (by decide) (J.opn op));have hI:=hitem (q.to (i'+1,false)) (i'+1) rfl hi (by omega) hg;generalize item (q.to (i'+1,false))=r at hI ⊢;rcases hI with ⟨h1,h2⟩|⟨h1,h2,h3,h4,⟨M,h5⟩,h6,h7,h8,v,y,h9,h10,h11⟩
    ·obtain⟨a,⟨⟨s1,s2⟩,nd,te,de⟩⟩:=r
     simp only at h1;subst h1;refine .inl ⟨?_,?_⟩
     ·rw[mX _ _ _ _ _ _ _ rfl];rfl
     ·rw[mX _ _ _ _ _ _ _ rfl,hf2];exact h2
    ·obtain⟨M0,hM⟩:=hM
     obtain⟨a,⟨⟨s1,s2⟩,nd,te,de⟩⟩:=r;simp only[GS.to]at h1 h2 h3 h4 h5 h6 h7 h8 h9 h10;subst h1;have bl:=(hr.ext M).bound;rw[<-h5]at bl;have br:=h9.bound
     have rl:Gr (j+1) u x (nd++[⟨kind,left,a,[],[],[],0⟩]) left:=by
      have:=hr.ext (M++[⟨kind,left,a,[],[],[],0⟩]);rw[<-mn,<-h5]at this;exact this
     obtain⟨z,hz⟩:=J.make nd u (TT ts i') v x y left a hc bl.2 br.2 rl (h9.ext _);refine ih _ _ s1 (u++TT ts i'::v) z rfl (by omega) h3 (by omega) (by omega) (hf2.trans h4) ⟨M0++M++[⟨kind,left,a,[],[],[],0⟩],?_⟩ ?_ h7 hz ?_ ?_
     ·show nd++[_]=_
      rw[h5,hM];simp
     ·exact cT.add h6 (J.node _ _ _ bl.1 bl.2 br.1 br.2)
     ·rw[hd,zJ ts i' hi,h10];simp
     ·obtain⟨y1,L1,w1,w2,w3,w4,w5,w6⟩:=hwt
      obtain⟨y2,L2,v1,v2,v3,v4,v5,v6⟩:=h11;have hcls:zS (TT ts i').2=tok:=hc;refine⟨pV y1 y2,L1++L2,J.wt _ _ _ _ _ _ _ _ _ _ hc rl (h9.ext _) w1 v1,?_,?_,?_,w5.join v5 (by rw[hcls];exact J.neut.1) (by rw[hcls];exact J.neut.2),?_⟩
      ·simp only[pV];split <;> omega
      ·simp only[GS.to]at v3
       show te=q0.tests+(y1.1+y2.1);omega
      ·simp only[GS.to]at v4
       show q0.dep<=de/\d+(pV y1 y2).2<=de/\(de=q0.dep\/de=d+(pV y1 y2).2);simp only[pV];split <;> omega
      ·simp only[GS.to]at v6
       show tE (nd++[_])=_;have e9:tE [⟨kind,left,a,[],[],[],0⟩]=[]:=by rcases J.kind with rfl|rfl <;> rfl
       rw[iH,e9,ce,v6,w6,mn]
   ·rw[e]
    simp only;obtain⟨e1,e2⟩:=J.exits (cA ts i') hc hx1;exact .inr ⟨rfl,zI6,hle,hf,hM,hg,e1,e2,u,x,hr,hd,hwt⟩
theorem QZ{len n:Nat}{op:Int}{fact:GS->Int->Int × GS}
 (hitem:∀(q:GS) (i:Nat),q.s=(i,false)->i<=ts.length->ts.length+1-i<=n->cT q.nd->UV ts len 0 i op d q (fact q d))
 (q:GS) (i:Nat) (hq:q.s=(i,false)) (hi:i<=ts.length) (hn:ts.length+1-i<=n) (hg:cT q.nd):UV ts len 1 i op d q (mO (pp ts len) fact q d):=by
 unfold mO;have hI:=hitem q i hq hi hn hg;generalize fact q d=r at hI ⊢;obtain⟨a,⟨⟨s1,s2⟩,nd,te,de⟩⟩:=r;rcases hI with ⟨h1,h2⟩|⟨h1,h2,h3,h4,h5,h6,h7,h8,v,y,h9,h10,h11⟩
 ·simp only at h1
  subst h1;refine .inl ⟨?_,?_⟩
  ·rw[mX _ _ _ _ _ _ _ rfl]
  ·rw[mX _ _ _ _ _ _ _ rfl];exact h2
 ·simp only at h1 h2 h3 h4 h5 h6 h7 h8 h9 h10
  subst h1;exact VL GA hitem (pp ts len).length a ⟨(s1,false),nd,te,de⟩ s1 v y rfl h2 h3 (by omega) (by rw[eY];omega) h4 h5 h6 (fun h=>absurd h (by decide)) (h9.le (by decide)) h10 h11
theorem Fg{len n:Nat}{op:Int}{fact:GS->Int->Int × GS}
 (hitem:∀(q:GS) (i:Nat),q.s=(i,false)->i<=ts.length->ts.length+1-i<=n->cT q.nd->UV ts len 0 i op d q (fact q d))
 (q:GS) (i:Nat) (hq:q.s=(i,false)) (hi:i<=ts.length) (hn:ts.length+1-i<=n) (hg:cT q.nd):UV ts len 2 i op d q (aY (pp ts len) fact q d):=by
 unfold aY;have hI:=QZ hitem q i hq hi hn hg;generalize mO (pp ts len) fact q d=r at hI ⊢;obtain⟨a,⟨⟨s1,s2⟩,nd,te,de⟩⟩:=r;rcases hI with ⟨h1,h2⟩|⟨h1,h2,h3,h4,h5,h6,h7,h8,v,y,h9,h10,h11⟩
 ·simp only at h1
  subst h1;refine .inl ⟨?_,?_⟩
  ·rw[mX _ _ _ _ _ _ _ rfl]
  ·rw[mX _ _ _ _ _ _ _ rfl];exact h2
 ·simp only at h1 h2 h3 h4 h5 h6 h7 h8 h9 h10
  subst h1;exact VL jr (fun q i=>QZ hitem q i) (pp ts len).length a ⟨(s1,false),nd,te,de⟩ s1 v y rfl h2 h3 (by omega) (by rw[eY];omega) h4 h5 h6 (fun _=>h7 (by decide)) (h9.le (by decide)) h10 h11
theorem zAA{len:Nat}(zIW:fQ ts)(n:Nat):∀(op d:Int),0<=op->∀(q:GS) (i:Nat),q.s=(i,false)->i<=ts.length->ts.length+1-i<=n->cT q.nd->UV ts len 0 i op d q (xF (pp ts len) n q d):=by
 induction n with
 | zero=>intro op d _ q i _ h1 h2;omega
 | succ n ih =>
   intro op d zJ3 q i hq hi hn hg;rw[xF,hq];rcases cW (len:=len) hi (t:=yY) (by decide) with ⟨hc,zI6,e⟩|⟨hc,e⟩
   ·rw[e]
    simp only;have hf:FA ts len i bK op=FA ts len (i+1) bK op:=qE zI6 hc rfl (by decide) (wX op);have hI:=ih op (d+1) zJ3 (q.to (i+1,false)) (i+1) rfl zI6 (by omega) hg;generalize xF (pp ts len) n (q.to (i+1,false)) (d+1)=r at hI ⊢;rcases hI with ⟨h1,h2⟩|⟨h1,h2,h3,h4,⟨M,h5⟩,h6,h7,h8,v,y,h9,h10,h11⟩
    ·exact .inl ⟨h1,by rw[hf];exact h2⟩
    ·obtain⟨a,⟨⟨s1,s2⟩,nd,te,de⟩⟩:=r
     simp only[GS.to]at h1 h2 h3 h4 h5 h6 h7 h8 h9 h10;subst h1;have br:=h9.bound;have en:kE (nd++[⟨3,a,0,[],[],[],0⟩]) (nd.length:Int).toNat=⟨3,a,0,[],[],[],0⟩:=by rw[Int.toNat_natCast];exact Zd _ _
     have el:lf (nd++[⟨3,a,0,[],[],[],0⟩]) nd.length=a:=by unfold lf;rw[en]
     have hgr:Gr 0 (TT ts i::v) (QK y) (nd++[⟨3,a,0,[],[],[],0⟩]) (nd.length:Int):=by
      refine bH.neg _ _ _ _ _ _ hc ⟨by omega,by simp only[tq,pd];omega,by rw[en],by rw[el];exact br.2⟩ ?_;rw[el];exact h9.ext _
     have hcls:zS (TT ts i).2=yY:=hc;refine .inr ⟨rfl,(by show i<s1;omega),h3,hf.trans h4,⟨M++[⟨3,a,0,[],[],[],0⟩],?_⟩,?_,fun h=>absurd h (by decide),fun h=>absurd h (by decide),TT ts i::v,QK y,hgr,?_,?_⟩
     ·show nd++[_]=_
      rw[h5];simp
     ·exact cT.add h6 ⟨fun e=>absurd (show (3:Int)=1 from e) (by decide),fun e=>absurd (show (3:Int)=2 from e) (by decide),fun _=>br,fun _ _ e=>absurd rfl e⟩
     ·show ts.drop i=(TT ts i::v)++ts.drop s1
      rw[zJ ts i zI6,h10];rfl
     ·obtain⟨y2,L2,v1,v2,v3,v4,v5,v6⟩:=h11
      simp only[GS.to]at v3 v4 v6;refine⟨(y2.1,y2.2+1),L2,zF8 hc hgr v1,by simp only;omega,v3,?_,v5.ahead (by rw[hcls];decide) (by rw[hcls];exact⟨by decide,by decide⟩),?_⟩
      ·show q.dep<=de/\d+(y2.2+1)<=de/\(de=q.dep\/de=d+(y2.2+1))
       omega
      ·show tE (nd++[_])=_
       rw[iH,v6,show tE [⟨3,a,0,[],[],[],0⟩]=[] from rfl,ce]
   rw[e];simp only;rcases cW (len:=len) hi (t:=yQ) (by decide) with ⟨hc2,zI6,e2⟩|⟨hc2,e2⟩
   ·rw[e2]
    simp only;have hf:FA ts len i bK op=FA ts len (i+1) bK (op+1):=qE zI6 hc2 rfl (by decide) (wW op);have hI:=Fg (fun q i=>ih (op+1) (d+1) (by omega) q i) (q.to (i+1,false)) (i+1) rfl zI6 (by omega) hg;generalize aY (pp ts len) (xF (pp ts len) n) (q.to (i+1,false)) (d+1)=r at hI ⊢;rcases hI with ⟨h1,h2⟩|⟨h1,h2,h3,h4,⟨M,h5⟩,h6,h7,h8,v,y,h9,h10,h11⟩
    ·obtain⟨a,⟨⟨s1,s2⟩,nd,te,de⟩⟩:=r
     simp only at h1;subst h1;exact .inl ⟨rfl,by rw[hf];exact h2⟩
    ·obtain⟨a,⟨⟨s1,s2⟩,nd,te,de⟩⟩:=r
     simp only[GS.to]at h1 h2 h3 h4 h5 h6 h7 h8 h9 h10;subst h1;simp only[GS.to];rcases gI (len:=len) h3 (t:=xS) (by decide) with ⟨hc3,hlt3,e3⟩|⟨hc3,e3⟩
     ·rw[e3]
      have hnx:zO qJ xS (op+1)=qJ:=by
       rw[aE,tg (by rintro(⟨_,h⟩|⟨h,_⟩);omega;exact absurd h (by decide))];decide
      have hf3:=qE (len:=len) hlt3 hc3 hnx (by decide) (show opn xS (op+1)=op by rw[wV];omega);refine .inr ⟨rfl,(by show i<s1+1;omega),hlt3,hf.trans (h4.trans hf3),⟨M,h5⟩,h6,fun h=>absurd h (by decide),fun h=>absurd h (by decide),TT ts i::(v++[TT ts s1]),y,bH.br _ _ _ _ _ _ _ hc2 hc3 h9,?_,?_⟩
      ·show ts.drop i=(TT ts i::(v++[TT ts s1]))++ts.drop (s1+1)
       rw[zJ ts i zI6,h10,zJ ts s1 hlt3];simp
      ·obtain⟨y2,L2,v1,v2,v3,v4,v5,v6⟩:=h11
       simp only[GS.to]at v3 v4 v6;have ho:zS (TT ts i).2=yQ:=hc2;have hs:zS (TT ts s1).2=xS:=hc3;refine⟨(y2.1,y2.2+1),L2,zHI hc2 hc3 h9 v1,by simp only;omega,v3,?_,(v5.behind (by rw[hs];decide) (by rw[hs];exact⟨by decide,by decide⟩)).ahead (by rw[ho];decide) (by rw[ho];exact⟨by decide,by decide⟩),v6⟩;show q.dep<=de/\d+(y2.2+1)<=de/\(de=q.dep\/de=d+(y2.2+1));omega
     ·rw[e3]
      refine .inl ⟨rfl,?_⟩;rw[hf,h4];exact gV h3 (ZU (h8 (by decide)) (h7 (by decide)) (fun e=>absurd e hc3) (fun _=>by omega)) (.inr (by decide))
   ·rw[e2]
    simp only;have hT:=vr (len:=len) zIW hi op hc hc2;generalize vA (pp ts len) (i,false)=r at hT ⊢;obtain⟨z,⟨s1,s2⟩⟩:=r;rcases hT with ⟨h1,h2⟩|⟨h1,h2,h3,h4,u,h5,h6,⟨h7,h8,h9,hTT⟩,h11⟩
    ·simp only at h1;subst h1
     exact .inl ⟨rfl,h2⟩
    ·simp only at h1 h2 h3 h4 h5 h7 h8 h9;subst h1
     have en:kE (q.nd++[z]) (q.nd.length:Int).toNat=z:=by rw[Int.toNat_natCast];exact Zd _ _
     refine .inr ⟨rfl,h2,h3,h4,⟨[z],rfl⟩,?_,fun h=>absurd h (by decide),fun h=>absurd h (by decide),u,(dD u,0),?_,h5,?_⟩
     ·have hz:Cf z q.nd.length:=⟨fun (e:z.kind=1)=>by omega,fun (e:z.kind=2)=>by omega,fun (e:z.kind=3)=>by omega,fun _ _ _=>⟨h7,h8⟩⟩
      exact cT.add hg hz
     ·show Gr 0 u (dD u,0) (q.nd++[z]) (q.nd.length:Int)
      refine bH.test _ _ _ _ h6 ⟨by omega,by simp only[tq,pd];omega,?_⟩;rw[en];exact⟨h7.1,h9,hTT⟩
     ·refine⟨(1,0),VA z,zBP h6,by simp,rfl,?_,h11,?_⟩
      ·show q.dep<=(if q.dep<d then d else q.dep)/\d+0<=(if q.dep<d then d else q.dep)/\((if q.dep<d then d else q.dep)=q.dep\/(if q.dep<d then d else q.dep)=d+0)
       split <;> omega
      ·show tE (q.nd++[z])=_
       rw[iH];simp[tE]
theorem GN{len:Nat}(zIW:fQ ts)(hi:i<=ts.length):UV ts len 2 i 0 0 ⟨(i,false),[],0,0⟩ (vY (pp ts len) (i,false)):=by
 unfold vY ZG;exact Fg (fun q i=>zAA zIW (pp ts len).length 0 0 (by decide) q i) ⟨(i,false),[],0,0⟩ i rfl hi (by rw[eY];omega) aL
end Go.Proofs.YtnbpdffdnphbeaaGreatDoor
