import Derived.Test.YtnbpdffdnphbeaaGreatDoorWsum
namespace Go.Proofs.YtnbpdffdnphbeaaGreatDoor
variable{cl:Bs}{x:Bs × Int}{a d:Int}{L:List (Nat × Bs)}{N:List zX}{i k:Nat}{t:Nat × Bs}{ts u:zG}(s:Bs)(P:List PT)(n:Nat)(w:Bs)
def pU(a b:Int × Int):Int × Int:=(a.1+b.1,if a.2<b.2 then b.2 else a.2)
def yD:Nat->zG->Int × Int
 | 0,_=>(0,0)
 | n+1,ts =>
   if 0<=yF ts xX then pU (yD n (ts.take (yF ts xX).toNat)) (yD n (ts.drop ((yF ts xX).toNat+1)))
   else if 0<=yF ts yE then pU (yD n (ts.take (yF ts yE).toNat)) (yD n (ts.drop ((yF ts yE).toNat+1)))
   else if zR (ts.getD 0 (0,[])).2=yW then ((yD n (ts.drop 1)).1,(yD n (ts.drop 1)).2+1)
   else if zR (ts.getD 0 (0,[])).2=yP then ((yD n ((ts.drop 1).take (ts.length-2))).1,(yD n ((ts.drop 1).take (ts.length-2))).2+1)
   else (1,0)
theorem tL:∀ts:zG,0<=(yD n ts).1/\(yD n ts).1<=ts.length+1/\0<=(yD n ts).2/\(yD n ts).2<=ts.length:=by
 induction n with
 | zero=>intro ts;simp[yD];omega
 | succ n ih =>
   intro ts;rw[yD];split
   ·rename_i h
    have hb:=(xS ts xX).2;have h1:=ih (ts.take (yF ts xX).toNat);have h2:=ih (ts.drop ((yF ts xX).toNat+1));rw[p9]at h1;rw[ty]at h2;simp only[pU];split <;> omega
   ·split
    ·rename_i h
     have hb:=(xS ts yE).2;have h1:=ih (ts.take (yF ts yE).toNat);have h2:=ih (ts.drop ((yF ts yE).toNat+1));rw[p9]at h1;rw[ty]at h2;simp only[pU];split <;> omega
    ·split
     ·rename_i h
      have h1:=ih (ts.drop 1)
      have h2:0<ts.length:=by
       cases ts with
       | nil=>exact absurd h (by decide)
       | cons _ _=>simp
      rw[ty]at h1;simp only;omega
     ·split
      ·rename_i h
       have h1:=ih ((ts.drop 1).take (ts.length-2))
       have h2:0<ts.length:=by
        cases ts with
        | nil=>exact absurd h (by decide)
        | cons _ _=>simp
       rw[p9,ty]at h1;simp only;omega
      ·simp;omega
def Yq(r:zG)(nx:Bs):Bs:=match r with | []=>nx|s::_=>zR s.2
def jk(p:Bs):zG->Bs
 | []=>p
 | t::r=>jk (zR t.2) r
def DH(p:Bs):zG->Bs
 | []=>p
 | t::r=>DH t.2 r
def mU(p nx:Bs):Nat:=if p=[104,97,115] then 1 else if p∈jD\/nx∈jD then 2 else 3
def qT:Bs->zG->Bs->List (Nat × Bs)
 | _,[],_=>[]
 | p,t::r,nx=>(if zR t.2=yT then [(mU p (Yq r nx),t.2)] else [])++qT (zR t.2) r nx
theorem Gq(u v:zG)(nx:Bs):Yq (u++v) nx=Yq u (Yq v nx):=by cases u <;> rfl
theorem Jk(u v:zG)(nx:Bs):∀p,qT p (u++v) nx=qT p u (Yq v nx)++qT (jk p u) v nx:=by
 induction u with
 | nil=>intro p;rfl
 | cons t r ih=>intro p;rw[bw,qT,ih,qT,jk,Gq,mq]
def neut(c:Bs):Prop:=c≠[104,97,115]/\c ∉ jD
def rA(u:zG)(L:List (Nat × Bs)):Prop:=∀p nx,neut p->nx ∉ jD->qT p u nx=L
theorem rA.join{v:zG}{L':List (Nat × Bs)}(hu:rA u L)(hv:rA v L')(ht:zR t.2≠yT)(hn:neut (zR t.2)):rA (u++t::v) (L++L'):=by
 intro p nx hp hnx;rw[Jk,show Yq (t::v) nx=zR t.2 from rfl,hu p _ hp hn.2,qT,tg ht,bf,hv _ _ hn hnx]
theorem rA.ahead(hu:rA u L)(ht:zR t.2≠yT)(hn:neut (zR t.2)):rA (t::u) L:=by
 intro p nx _ hnx;rw[qT,tg ht,bf,hu _ _ hn hnx]
theorem rA.behind(hu:rA u L)(ht:zR t.2≠yT)(hn:neut (zR t.2)):rA (u++[t]) L:=by
 intro p nx hp _;rw[Jk,show Yq [t] nx=zR t.2 from rfl,hu p _ hp hn.2,qT,tg ht,qT];simp
def V3(x:zX):List (Nat × Bs) :=
 if x.kind=5 then [(1,x.name)] else if x.kind=6 then [(3,x.name)] else if x.kind=7 then (2,x.name)::(if x.other=[] then [] else [(2,x.other)]) else []
def tD(N:List zX):List (Nat × Bs):=N.flatMap V3
theorem iK(N M:List zX):tD (N++M)=tD N++tD M:=by simp[tD]
def cI:zG->List (Nat × Bs)
 | []=>[]
 | t::r=>(if zR t.2=yT then [(0,t.2)] else [])++cI r
def kH:zG->Nat
 | []=>0
 | t::r=>(if zR t.2=[43]\/zR t.2=[45] then 1 else 0)+kH r
def mK:Bs->zG->Bool
 | _,[]=>false
 | p,t::r=>(decide (zR t.2=[42])&&decide (9<xF 0 p)) || mK t.2 r
theorem Gs(u v:zG):cI (u++v)=cI u++cI v:=by
 induction u with
 | nil=>rfl
 | cons t r ih=>rw[bw,cI,ih,cI,mq]
theorem zm(u v:zG):kH (u++v)=kH u+kH v:=by
 induction u with
 | nil=>simp[kH]
 | cons t r ih=>rw[bw,kH,ih,kH];omega
theorem zB3(u v:zG):∀p,mK p (u++v)=(mK p u || mK (DH p u) v):=by
 induction u with
 | nil=>intro p;simp[mK,DH]
 | cons t r ih=>intro p;rw[bw,mK,ih,mK,DH,Bool.or_assoc]
def rR(x:yX):List (Nat × Bs):=if x.name=[] then [] else [(0,x.name)]
def tC(x:yX):Bool:=x.starred&&decide (9<x.num)
structure QL(v:zG)(S:List yX):Prop where
 needs:cI v=S.flatMap rR
 count:kH v+1=S.length
 big:∀p,mK p v=S.any tC
 star:∀k,k<v.length->zR (v.getD k (0,[])).2=[42]->0<k/\zR (v.getD (k-1) (0,[])).2=yA
theorem QL.join{v:zG}{S S':List yX}(hu:QL u S)(hv:QL v S')(ht:zR t.2=[43]\/zR t.2=[45]):QL (u++t::v) (S++S'):=by
 have h1:zR t.2≠yT:=by rcases ht with h|h <;> rw[h] <;> decide
 have h2:zR t.2≠[42]:=by rcases ht with h|h <;> rw[h] <;> decide
 refine⟨?_,?_,?_,?_⟩
 ·rw[Gs,cI,tg h1,hu.needs,hv.needs,fa,bf]
 ·rw[zm,kH,tj ht,tq,<-hu.count,<-hv.count];omega
 ·intro p;rw[zB3,mK,hu.big,hv.big,th h2,df];simp
 ·intro k hk h
  rcases Nat.lt_trichotomy k u.length with h3|h3|h3
  ·have e:∀i,i<u.length->(u++t::v).getD i (0,[])=u.getD i (0,[]):=fun i hi=>by rw[List.getD,List.getD,m6 hi]
   rw[e k h3]at h;obtain⟨h4,h5⟩:=hu.star k h3 h;exact⟨h4,by rw[e (k-1) (by omega)];exact h5⟩
  ·subst h3
   rw[List.getD,pf (t9 _)]at h;simp only[bj,cg,Option.getD_some]at h;exact absurd h h2
  ·have e:∀i,u.length<i->(u++t::v).getD i (0,[])=v.getD (i-u.length-1) (0,[]):=fun i hi=>by
    rw[List.getD,List.getD,pf (by omega)];obtain⟨m,hm⟩:∃m,i-u.length=m+1:=⟨i-u.length-1,by omega⟩;rw[hm];rfl
   rw[e k h3]at h;obtain⟨h4,h5⟩:=hv.star (k-u.length-1) (by simp only[tq,p7]at hk;omega) h;exact⟨by omega,by rw[e (k-1) (by omega),show k-1-u.length-1=k-u.length-1-1 by omega];exact h5⟩
def jQ(st:Bs):List Bs:=(List.range 43).filterMap fun i=>if xQ.getD (i*3) []=st then some (xQ.getD (i*3+1) []) else none
theorem Kv(st cl:Bs)(n:Nat):∀i,i+n<=43->cl ∉ jQ st->xL st cl n i=[]:=by
 induction n with
 | zero=>intro i _ _;rfl
 | succ n ih =>
   intro i hi h;rw[xL,tg,ih (i+1) (by omega) h];rintro⟨h1,h2⟩;refine h (List.mem_filterMap.2 ⟨i,db.2 (by omega),?_⟩);rw[tj h1,h2]
theorem Ch{st:Bs}{op:Int}(h1:st≠uQ)(h2:st≠qF):zO st cl op=xL st cl 43 0:=by
 unfold zO;simp only[h1,false_and,if_false,h2]
theorem mT{st:Bs}{op:Int}(h1:st≠uQ)(h2:st≠qF)(h:cl ∉ jQ st):zO st cl op=[]:=by
 rw[Ch h1 h2];exact Kv st cl 43 0 (by omega) h
theorem Cg:jQ qF=[xX,yE,xT,qN]:=by decide
theorem V5:jQ uQ=jD:=by decide
theorem aC(cl:Bs)(op:Int):zO qF cl op=if cl=xT/\op=0\/cl=qN/\0<op then [] else xL qF cl 43 0:=by
 unfold zO;simp only[ite_self,true_and]
theorem ZQ{op:Int}(h1:cl≠xX)(h2:cl≠yE)(h3:cl=xT->op=0)(h4:cl=qN->0<op):zO qF cl op=[]:=by
 rw[aC];split
 ·rfl
 ·rename_i h
  refine Kv _ _ 43 0 (by omega) ?_;rw[Cg];simp only[pi,ld,dn,h1,h2,false_or];rintro(e|e)
  ·exact h (.inl ⟨e,h3 e⟩)
  ·exact h (.inr ⟨e,h4 e⟩)
theorem Cm{op:Int}(h:cl ∉ jD):zO uQ cl op=zO qF cl op:=by
 by_cases hc:cl=xX\/cl=yE\/cl=xT\/cl=qN
 ·unfold zO
  simp only[hc,and_self,if_true,ite_self]
 ·have e1:zO uQ cl op=xL uQ cl 43 0:=by
   unfold zO;simp only[hc,and_false,if_false];rw[tg (by intro h;exact absurd h.1 (by decide))]
  rw[e1,Kv _ _ 43 0 (by omega) (by rw[V5];exact h)];rw[ZQ (fun e=>hc (.inl e)) (fun e=>hc (.inr (.inl e))) (fun e=>absurd (.inr (.inr (.inl e))) hc) (fun e=>absurd (.inr (.inr (.inr e))) hc)]
def zDJ:List Bs:=DK++VA
theorem ZI:∀t∈zDJ,zR t=t/\vS t=4/\t≠YE/\t≠yT/\t≠yA:=by decide
theorem aP:(vS s=4/\s∈zDJ/\zR s=s)\/(vS s=2/\zR s=yT)\/(vS s=3/\zR s=yA)\/(vS s=1/\zR s=YE):=by
 unfold vS zR;rw[CT,UD];split
 ·split
  ·exact .inr (.inr (.inr ⟨rfl,rfl⟩))
  ·split
   ·rename_i h
    refine .inl ⟨rfl,?_,rfl⟩;unfold qC at h;exact pt.2 (.inl (by simpa using h))
   ·exact .inr (.inl ⟨rfl,rfl⟩)
 ·split
  ·split
   ·exact .inr (.inr (.inr ⟨rfl,rfl⟩))
   ·exact .inr (.inr (.inl ⟨rfl,rfl⟩))
  ·split
   ·rename_i h
    refine .inl ⟨rfl,?_,rfl⟩;unfold vE at h;exact pt.2 (.inr (by simpa using h))
   ·exact .inr (.inr (.inr ⟨rfl,rfl⟩))
theorem zAU{s t:Bs}(ht:t∈zDJ):(vS s=4/\s=t) ↔ zR s=t:=by
 obtain⟨a,b,c,d,e⟩:=ZI t ht;constructor
 ·rintro⟨_,rfl⟩;exact a
 ·intro h
  rcases aP s with ⟨h1,_,h2⟩|⟨_,h2⟩|⟨_,h2⟩|⟨_,h2⟩
  ·exact⟨h1,h2.symm.trans h⟩
  ·exact absurd (h.symm.trans h2) d
  ·exact absurd (h.symm.trans h2) e
  ·exact absurd (h.symm.trans h2) c
theorem zAT:vS s=2 ↔ zR s=yT:=by
 rcases aP s with ⟨h1,h3,h2⟩|⟨h1,h2⟩|⟨h1,h2⟩|⟨h1,h2⟩
 ·obtain⟨a,b,c,d,e⟩:=ZI s h3
  exact⟨fun h=>absurd (h1.symm.trans h) (by decide),fun h=>absurd (h2.symm.trans h) d⟩
 ·exact⟨fun _=>h2,fun _=>h1⟩
 ·exact⟨fun h=>absurd (h1.symm.trans h) (by decide),fun h=>absurd (h2.symm.trans h) (by decide)⟩
 ·exact⟨fun h=>absurd (h1.symm.trans h) (by decide),fun h=>absurd (h2.symm.trans h) (by decide)⟩
theorem oL:vS s=3 ↔ zR s=yA:=by
 rcases aP s with ⟨h1,h3,h2⟩|⟨h1,h2⟩|⟨h1,h2⟩|⟨h1,h2⟩
 ·obtain⟨a,b,c,d,e⟩:=ZI s h3
  exact⟨fun h=>absurd (h1.symm.trans h) (by decide),fun h=>absurd (h2.symm.trans h) e⟩
 ·exact⟨fun h=>absurd (h1.symm.trans h) (by decide),fun h=>absurd (h2.symm.trans h) (by decide)⟩
 ·exact⟨fun _=>h2,fun _=>h1⟩
 ·exact⟨fun h=>absurd (h1.symm.trans h) (by decide),fun h=>absurd (h2.symm.trans h) (by decide)⟩
def pp(ts:zG)(len:Nat):List PT:=ts.map (fun t=>⟨vS t.2,t.2,pX t.2,t.1⟩)++[⟨0,[],0,len⟩]
theorem eY(ts:zG)(len:Nat):(pp ts len).length=ts.length+1:=by simp[pp]
def tA(ts:zG)(i:Nat):Bs:=(ts.getD i (0,[])).2
def cA(ts:zG)(i:Nat):Bs:=zR (tA ts i)
theorem KD(h:ts.length<=i):cA ts i=YE:=by
 unfold cA tA;rw[List.getD,gf h];decide
theorem zAY(h:cA ts i≠YE):i<ts.length:=by
 rcases po i ts.length with h1|h1
 ·exact h1
 ·exact absurd (KD h1) h
theorem cN{t:Bs}(ht:t∈zDJ)(h:cA ts i=t):i<ts.length/\tA ts i=t :=
 ⟨zAY (by rw[h];exact(ZI t ht).2.2.1),((zAU ht).2 h).2⟩
theorem oJ{len:Nat}(h:i<ts.length):yV (pp ts len) i=⟨vS (tA ts i),tA ts i,pX (tA ts i),(ts.getD i (0,[])).1⟩:=by
 unfold yV pp tA;rw[List.getD,m6 (by simpa using h)];simp[List.getD,h]
theorem aO{len:Nat}:yV (pp ts len) ts.length=⟨0,[],0,len⟩:=by
 unfold yV pp;simp[List.getD]
theorem YK{len:Nat}(h:i<=ts.length){t:Bs}(ht:t∈zDJ):bJ (pp ts len) t i false=decide (cA ts i=t):=by
 unfold bJ;rcases po i ts.length with h1|h1
 ·rw[oJ h1]
  simp only[dh,md,<-Bool.decide_and];exact bp.2 (zAU ht)
 ·obtain rfl:i=ts.length:=by omega
  rw[aO,KD (t9 _)];have h2:=(ZI t ht).2.2.1;have h3:¬YE=t:=fun e=>h2 e.symm;rw[th h3];rfl
theorem Vd{len:Nat}(h:i<=ts.length):kM (pp ts len) 2 i false=decide (cA ts i=yT):=by
 unfold kM;rcases po i ts.length with h1|h1
 ·rw[oJ h1]
  simp only[dh,md];exact bp.2 (zAT _)
 ·obtain rfl:i=ts.length:=by omega
  rw[aO,KD (t9 _)];rfl
theorem Xi{len:Nat}(h:i<=ts.length):kM (pp ts len) 3 i false=decide (cA ts i=yA):=by
 unfold kM;rcases po i ts.length with h1|h1
 ·rw[oJ h1]
  simp only[dh,md];exact bp.2 (oL _)
 ·obtain rfl:i=ts.length:=by omega
  rw[aO,KD (t9 _)];rfl
section steps
variable {ts:zG} {len i:Nat}
theorem cS(h:i<=ts.length){t:Bs}(ht:t∈zDJ):(cA ts i=t/\i<ts.length/\zC (pp ts len) t (i,false)=(true,(i+1,false)))\/(cA ts i≠t/\zC (pp ts len) t (i,false)=(false,(i,false))):=by
 by_cases hc:cA ts i=t
 ·refine .inl ⟨hc,(cN ht hc).1,?_⟩
  simp only[zC,YK h ht,hc,fo,JD]
 ·refine .inr ⟨hc,?_⟩
  simp only[zC,YK h ht,hc,du,JD]
theorem gD(h:i<=ts.length){t:Bs}(ht:t∈zDJ):(cA ts i=t/\i<ts.length/\zU (pp ts len) t (i,false)=(i+1,false))\/(cA ts i≠t/\zU (pp ts len) t (i,false)=(i,true)):=by
 by_cases hc:cA ts i=t
 ·refine .inl ⟨hc,(cN ht hc).1,?_⟩
  simp only[zU,YK h ht,hc,fo,JD,Bool.not_true]
 ·refine .inr ⟨hc,?_⟩
  simp only[zU,YK h ht,hc,du,JD,dh]
theorem fE(h:i<=ts.length):(cA ts i=yT/\i<ts.length/\zI (pp ts len) (i,false)=(tA ts i,(i+1,false)))\/(cA ts i≠yT/\zI (pp ts len) (i,false)=([],(i,true))):=by
 by_cases hc:cA ts i=yT
 ·have hi:i<ts.length:=zAY (by rw[hc];decide)
  refine .inl ⟨hc,hi,?_⟩;simp only[zI,Vd h,hc,fo,JD,tk,oJ hi,Bool.not_true]
 ·refine .inr ⟨hc,?_⟩
  simp only[zI,Vd h,hc,du,JD,tk,pz,dh]
theorem ux{s:Bs}(h:zR s=yA):pX s=xF 0 s:=by unfold pX;rw[tj ((oL s).2 h)]
theorem wZ(h:i<=ts.length):(cA ts i=yA/\i<ts.length/\yL (pp ts len) (i,false)=(xF 0 (tA ts i),(i+1,false)))\/(cA ts i≠yA/\yL (pp ts len) (i,false)=(0,(i,true))):=by
 by_cases hc:cA ts i=yA
 ·have hi:i<ts.length:=zAY (by rw[hc];decide)
  refine .inl ⟨hc,hi,?_⟩;simp only[yL,Xi h,hc,fo,JD,tk,oJ hi,Bool.not_true,ux hc]
 ·refine .inr ⟨hc,?_⟩
  simp only[yL,Xi h,hc,du,JD,tk,pz,dh]
theorem YT(h:i<=ts.length)(b:Bool):tX (pp ts len) (i,b)=decide (cA ts i=yA):=by
 rw[<-Xi (len:=len) h];simp only[tX,kM,dh,md];rfl
theorem CR:∀t∈jD,t∈zDJ:=by decide
theorem zGU(h:i<=ts.length):(cA ts i∈jD/\i<ts.length/\tA ts i=cA ts i/\vT (pp ts len) (i,false)=(cA ts i,(i+1,false)))\/(cA ts i ∉ jD/\vT (pp ts len) (i,false)=([],(i,false))):=by
 by_cases hc:cA ts i∈jD
 ·obtain⟨h1,h2⟩:=cN (CR _ hc) rfl
  refine .inl ⟨hc,h1,h2,?_⟩;unfold vT;have e:(yV (pp ts len) i).s=cA ts i:=by rw[oJ h1];exact h2
  simp only[e];rcases cS (len:=len) h (CR _ hc) with ⟨_,_,h3⟩|⟨h3,_⟩
  ·simp only[List.contains_iff_mem.2 hc,h3]
  ·exact absurd rfl h3
 ·refine .inr ⟨hc,?_⟩
  unfold vT
  have e:jD.contains (yV (pp ts len) i).s=false:=by
   rw[fg];intro h1;have h2:=List.contains_iff_mem.1 h1;rcases po i ts.length with h3|h3
   ·rw[oJ h3]at h2
    have h4:tA ts i∈jD:=h2;exact hc (by unfold cA;rw[(ZI _ (CR _ h4)).1];exact h4)
   ·obtain rfl:i=ts.length:=by omega
    rw[aO]at h2;exact absurd (show ([]:Bs)∈jD from h2) (by decide)
  simp only[e]
theorem Bo(t:Bs)(i:Nat):zC P t (i,true)=(false,(i,true)):=rfl
theorem rF(t:Bs)(i:Nat):zU P t (i,true)=(i,true):=rfl
theorem Cn(i:Nat):zI P (i,true)=([],(i,true)):=rfl
theorem X1(i:Nat):yL P (i,true)=(0,(i,true)):=rfl
end steps
def FA(ts:zG)(len:Nat)(i:Nat)(st:Bs)(op:Int):Int:=jC len (ts.drop i) st op
theorem uX{len:Nat}{st st':Bs}{op op':Int}(h:i<ts.length)(hc:cA ts i=cl)(h1:zO st cl op=st')(h2:st'≠[])(h3:opn cl op=op'):FA ts len i st op=FA ts len (i+1) st' op':=by
 unfold FA;subst hc h1 h3;rw[zJ ts i h,jC];exact tg h2
theorem gP{len:Nat}{st:Bs}{op:Int}(h0:i<=ts.length)(h1:zO st (cA ts i) op=[])(h2:i<ts.length\/st≠jH):FA ts len i st op=((yV (pp ts len) i).p:Int):=by
 unfold FA;rcases po i ts.length with h|h
 ·rw[zJ ts i h,jC,oJ h]
  show (if zO st (cA ts i) op=[] then _ else _)=_;rw[tj h1]
 ·obtain rfl:i=ts.length:=by omega
  rw[List.drop_length,jC,tg (by rcases h2 with h2|h2;omega;exact h2),aO]
theorem zBK{len:Nat}{op:Int}(h:cA ts i ∉ jD):FA ts len i uQ op=FA ts len i qF op:=by
 unfold FA;rcases po i ts.length with h1|h1
 ·rw[zJ ts i h1,jC,jC]
  have e:zO uQ (zR (ts.getD i (0,[])).2) op=zO qF (zR (ts.getD i (0,[])).2) op:=Cm h;rw[e]
 ·rw[tu h1,jC,jC];rfl
abbrev tN(c:Bs):Prop:=c≠xX/\c≠yE/\c≠xT/\c≠yP/\c≠qN/\c≠yW
def UV:zG->Int->Int
 | [],op=>op
 | t::r,op=>UV r (opn (zR t.2) op)
theorem Kk(u v:zG):∀op,UV (u++v) op=UV v (UV u op):=by
 induction u with
 | nil=>intro op;rfl
 | cons t r ih=>intro op;exact ih _
theorem qS(u v:zG):∀i op at',uU w (u++v) i op at'=uU w v (i+u.length) (UV u op) (uU w u i op at'):=by
 induction u with
 | nil=>intro i op a;rfl
 | cons t r ih=>intro i op a;rw[bw,uU,ih,uU,UV,p7];congr 1;omega
theorem Gf{c:Bs}(h:tN c)(op:Int):opn c op=op:=by unfold opn;rw[tg h.2.2.2.1,tg h.2.2.1]
theorem zC4(u:zG)(h:∀t∈u,tN (zR t.2)):∀op,UV u op=op:=by
 induction u with
 | nil=>intro op;rfl
 | cons t r ih=>intro op;rw[UV,Gf (h t (mw ..)),ih (fun x hx=>h x (cd _ hx))]
theorem jM(hw:w=xX\/w=yE)(u:zG)(h:∀t∈u,tN (zR t.2)):∀i op at',uU w u i op at'=at':=by
 induction u with
 | nil=>intro i op a;rfl
 | cons t r ih =>
   intro i op a;have h1:=h t (mw ..);rw[uU,tg,ih (fun x hx=>h x (cd _ hx))];rintro⟨_,h2⟩;rcases hw with rfl|rfl
   ·exact h1.1 h2
   ·exact h1.2.1 h2
theorem wX(op:Int):opn yP op=op+1:=tj rfl
theorem wW(op:Int):opn xT op=op-1:=by unfold opn;rw[tg (by decide),tj rfl]
theorem wY(op:Int):opn yW op=op:=by unfold opn;rw[tg (by decide),tg (by decide)]
theorem rX(op:Int):opn xX op=op:=by unfold opn;rw[tg (by decide),tg (by decide)]
theorem cC(op:Int):opn yE op=op:=by unfold opn;rw[tg (by decide),tg (by decide)]
theorem zC2{n:Nat}(h:yF ts xX=k):pV (n+1) ts=((pV n (ts.take k)).1++[32,111,114,32]++(pV n (ts.drop (k+1))).1,2)/\qJ (n+1) ts=(qJ n (ts.take k)&&qJ n (ts.drop (k+1))):=by
 rw[pV,qJ,h,tj (by omega),tj (by omega)];exact⟨rfl,rfl⟩
theorem vm{n:Nat}(h0:yF ts xX = -1)(h:yF ts yE=k):pV (n+1) ts=((if (pV n (ts.take k)).2=2 then UW (pV n (ts.take k)).1 else (pV n (ts.take k)).1)++[32,97,110,100,32]++(if (pV n (ts.drop (k+1))).2=2 then UW (pV n (ts.drop (k+1))).1 else (pV n (ts.drop (k+1))).1),1)/\qJ (n+1) ts=(qJ n (ts.take k)&&qJ n (ts.drop (k+1))):=by
 constructor
 ·rw[pV,h0,h,tg (by omega),tj (Int.natCast_nonneg k)];rfl
 ·rw[qJ,h0,h,tg (by omega),tj (Int.natCast_nonneg k)];rfl
theorem lG(r:Bs)(st:fP):yU (s++[32]++r) st=yU r (yU s st):=by
 obtain⟨o,il⟩:=st;cases il <;> simp[yU,zHW]
def kY:zG->fP->fP
 | [],st=>st
 | t::r,st=>kY r (yU t.2 st)
theorem eX(u v:zG):∀st,kY (u++v) st=kY v (kY u st):=by
 induction u with
 | nil=>intro st;rfl
 | cons t r ih=>intro st;exact ih _
theorem Vu(r:zG):∀(s:Bs) (i:Nat) (st:fP),yU (Uj s (i+1) r) st=kY r (yU s st):=by
 induction r with
 | nil=>intro s i st;rfl
 | cons t r ih=>intro s i st;rw[Uj,tj (by omega),ih,lG,kY]
theorem nW(h:u≠[])(st:fP):kY u st=yU (cZ u) st:=by
 cases u with
 | nil=>exact absurd rfl h
 | cons t r=>rw[cZ,Uj,tg (by omega),bf,Vu,kY]
theorem Xb(st:fP):yU (UW s) st=yU xT (yU s (yU yP st)):=by
 rw[<-lG,<-lG];simp[UW,xT,yP]
theorem Zf{M:List zX}{a:Nat}(h:a<N.length):qZ (N++M) a=qZ N a:=by
 unfold qZ;rw[List.getD,m6 h];rfl
abbrev lf(N:List zX)(a:Int):Int:=(qZ N a.toNat).left
abbrev rg(N:List zX)(a:Int):Int:=(qZ N a.toNat).right
def zF5(x:zX)(u:zG):Prop :=
 (x.kind=4/\∃t,u=[t]/\zR t.2=[97,108,119,97,121,115]) \/
 (x.kind=5/\∃t s,u=[t,s]/\zR t.2=[104,97,115]/\zR s.2=yT/\x.name=s.2) \/
 (x.kind=6/\∃t,u=[t]/\zR t.2=yT/\x.name=t.2) \/
 (x.kind=7/\∃t m s,u=[t,m,s]/\zR t.2=yT/\x.name=t.2/\m.2∈jD/\x.mark=m.2/\((zR s.2=yA/\x.other=[]/\x.num=xF 0 s.2)\/(zR s.2=yT/\x.other=s.2/\s.2≠[])))
def zF6(N:List zX)(a:Int)(u:zG):Prop:=0<=a/\a<N.length/\(4<=(qZ N a.toNat).kind)/\(∀st,KZ (qZ N a.toNat) st=kY u st)/\zF5 (qZ N a.toNat) u
def zI8(N:List zX)(a:Int):Prop:=0<=a/\a<N.length/\(qZ N a.toNat).kind=3/\lf N a<a
def zBM(kd:Int)(N:List zX)(a:Int):Prop:=0<=a/\a<N.length/\(qZ N a.toNat).kind=kd/\lf N a<a/\rg N a<a
def JR(u:zG):Prop:=u≠[]/\∀t∈u,tN (zR t.2)
def QE(x:Bs × Int):Bs × Int:=([110,111,116,32]++(if 0<x.2 then UW x.1 else x.1),0)
def UC(x y:Bs × Int):Bs × Int:=((if x.2=2 then UW x.1 else x.1)++[32,97,110,100,32]++(if y.2=2 then UW y.1 else y.1),1)
def orT(x y:Bs × Int):Bs × Int:=(x.1++[32,111,114,32]++y.1,2)
structure Cl(R:Nat->zG->Bs × Int->List zX->Int->Prop):Prop where
 test:∀k u N a,JR u->zF6 N a u->R k u (cZ u,0) N a
 neg:∀k t u x N a,zR t.2=yW->zI8 N a->R 0 u x N (lf N a)->R k (t::u) (QE x) N a
 br:∀k o u c x N a,zR o.2=yP->zR c.2=xT->R 2 u x N a->R k (o::(u++[c])) x N a
 and:∀k u t v x y N a,1<=k->zR t.2=yE->zBM 2 N a->R 1 u x N (lf N a)->R 0 v y N (rg N a)->R k (u++t::v) (UC x y) N a
 or:∀k u t v x y N a,2<=k->zR t.2=xX->zBM 1 N a->R 2 u x N (lf N a)->R 1 v y N (rg N a)->R k (u++t::v) (orT x y) N a
def Gr(k:Nat)(u:zG)(x:Bs × Int)(N:List zX)(a:Int):Prop:=∀R,Cl R->R k u x N a
theorem bH:Cl Gr:={
 test:=fun k u N a h1 h2 _ c=>c.test k u N a h1 h2
 neg:=fun k t u x N a h1 h2 h _ c=>c.neg k t u x N a h1 h2 (h _ c)
 br:=fun k o u e x N a h1 h2 h _ c=>c.br k o u e x N a h1 h2 (h _ c)
 and:=fun k u t v x y N a h1 h2 h3 h h' _ c=>c.and k u t v x y N a h1 h2 h3 (h _ c) (h' _ c)
 or:=fun k u t v x y N a h1 h2 h3 h h' _ c=>c.or k u t v x y N a h1 h2 h3 (h _ c) (h' _ c) }
theorem Gr.ind{R:Nat->zG->Bs × Int->List zX->Int->Prop}
 (test:∀k u N a,JR u->zF6 N a u->R k u (cZ u,0) N a)
 (neg:∀k t u x N a,zR t.2=yW->zI8 N a->Gr 0 u x N (lf N a)->R 0 u x N (lf N a)->R k (t::u) (QE x) N a)
 (br:∀k o u c x N a,zR o.2=yP->zR c.2=xT->Gr 2 u x N a->R 2 u x N a->R k (o::(u++[c])) x N a)
 (and:∀k u t v x y N a,1<=k->zR t.2=yE->zBM 2 N a->Gr 1 u x N (lf N a)->Gr 0 v y N (rg N a)->R 1 u x N (lf N a)->R 0 v y N (rg N a)->R k (u++t::v) (UC x y) N a)
 (or:∀k u t v x y N a,2<=k->zR t.2=xX->zBM 1 N a->Gr 2 u x N (lf N a)->Gr 1 v y N (rg N a)->R 2 u x N (lf N a)->R 1 v y N (rg N a)->R k (u++t::v) (orT x y) N a) (h:Gr k u x N a):R k u x N a :=
 (h (fun k u x N a=>Gr k u x N a/\R k u x N a) {
  test:=fun k u N a h1 h2=>⟨bH.test k u N a h1 h2,test k u N a h1 h2⟩
  neg:=fun k t u x N a h1 h2 h=>⟨bH.neg k t u x N a h1 h2 h.1,neg k t u x N a h1 h2 h.1 h.2⟩
  br:=fun k o u c x N a h1 h2 h=>⟨bH.br k o u c x N a h1 h2 h.1,br k o u c x N a h1 h2 h.1 h.2⟩
  and:=fun k u t v x y N a h1 h2 h3 h h'=>⟨bH.and k u t v x y N a h1 h2 h3 h.1 h'.1,and k u t v x y N a h1 h2 h3 h.1 h'.1 h.2 h'.2⟩
  or:=fun k u t v x y N a h1 h2 h3 h h'=>⟨bH.or k u t v x y N a h1 h2 h3 h.1 h'.1,or k u t v x y N a h1 h2 h3 h.1 h'.1 h.2 h'.2⟩ }).2
section gr
variable {k:Nat} {u:zG} {x:Bs × Int} {N:List zX} {a:Int}
theorem Gr.le(h:Gr k u x N a){k':Nat}(hk:k<=k'):Gr k' u x N a:=by
 refine Gr.ind (R:=fun k u x N a=>∀k',k<=k'->Gr k' u x N a) ?_ ?_ ?_ ?_ ?_ h k' hk
 ·intro k u N a h1 h2 k' _;exact bH.test _ _ _ _ h1 h2
 ·intro k t u x N a h1 h2 h3 _ k' _;exact bH.neg _ _ _ _ _ _ h1 h2 h3
 ·intro k o u c x N a h1 h2 h3 _ k' _;exact bH.br _ _ _ _ _ _ _ h1 h2 h3
 ·intro k u t v x y N a h1 h2 h3 h4 h5 _ _ k' hk;exact bH.and _ _ _ _ _ _ _ _ (tx h1 hk) h2 h3 h4 h5
 ·intro k u t v x y N a h1 h2 h3 h4 h5 _ _ k' hk;exact bH.or _ _ _ _ _ _ _ _ (tx h1 hk) h2 h3 h4 h5
theorem Gr.op(h:Gr k u x N a)(op:Int):UV u op=op:=by
 refine Gr.ind (R:=fun _ u _ _ _=>∀op,UV u op=op) ?_ ?_ ?_ ?_ ?_ h op
 ·intro k u N a h1 _ op;exact zC4 u h1.2 op
 ·intro k t u x N a h1 _ _ ih op;rw[UV,h1,wY,ih]
 ·intro k o u c x N a h1 h2 _ ih op;rw[UV,h1,wX,Kk,ih,UV,h2,wW,UV];omega
 ·intro k u t v x y N a _ h2 _ _ _ ihu ihv op;rw[Kk,ihu,UV,h2,cC,ihv]
 ·intro k u t v x y N a _ h2 _ _ _ ihu ihv op;rw[Kk,ihu,UV,h2,rX,ihv]
theorem Gr.inner(h:Gr k u x N a)(w:Bs)(hw:w=xX\/w=yE)(i:Nat)(op at':Int)(ho:0<op):uU w u i op at'=at':=by
 refine Gr.ind (R:=fun _ u _ _ _=>∀(i:Nat) (op at':Int),0<op->uU w u i op at'=at') ?_ ?_ ?_ ?_ ?_ h i op at' ho
 ·intro k u N a h1 _ i op at' _;exact jM w hw u h1.2 i op at'
 ·intro k t u x N a h1 _ _ ih i op at' ho
  rw[uU,h1,wY,tg (by intro e;omega),ih _ _ _ ho]
 ·intro k o u c x N a h1 h2 h3 ih i op at' ho
  rw[uU,h1,wX,tg (by intro e;omega),qS,ih _ _ _ (by omega),h3.op,uU,h2,wW,tg (by intro e;omega),uU]
 ·intro k u t v x y N a _ h2 _ h4 _ ihu ihv i op at' ho
  rw[qS,ihu _ _ _ ho,h4.op,uU,h2,cC,tg (by intro e;omega),ihv _ _ _ ho]
 ·intro k u t v x y N a _ h2 _ h4 _ ihu ihv i op at' ho
  rw[qS,ihu _ _ _ ho,h4.op,uU,h2,rX,tg (by intro e;omega),ihv _ _ _ ho]
theorem dB(hw:w=xX\/w=yE){o c:Nat × Bs}(h1:zR o.2=yP)(h2:zR c.2=xT)(h3:Gr k u x N a)(i:Nat)(at':Int):uU w (o::(u++[c])) i 0 at'=at':=by
 rw[uU,h1,wX,tg (by intro e;omega),qS,h3.inner w hw _ _ _ (by omega),h3.op,uU,h2,wW,tg,uU];rintro⟨_,e⟩;rcases hw with rfl|rfl
 ·exact absurd e (by decide)
 ·exact absurd e (by decide)
theorem Gr.out0(h:Gr 0 u x N a)(w:Bs)(hw:w=xX\/w=yE)(i:Nat)(at':Int):uU w u i 0 at'=at':=by
 refine Gr.ind (R:=fun k u _ _ _=>k=0->∀(i:Nat) (at':Int),uU w u i 0 at'=at') ?_ ?_ ?_ ?_ ?_ h rfl i at'
 ·intro k u N a h1 _ _ i at';exact jM w hw u h1.2 i 0 at'
 ·intro k t u x N a h1 _ _ ih _ i at'
  rw[uU,h1,wY,tg,ih rfl];rintro⟨_,e⟩;rcases hw with rfl|rfl
  ·exact absurd e (by decide)
  ·exact absurd e (by decide)
 ·intro k o u c x N a h1 h2 h3 _ _ i at';exact dB w hw h1 h2 h3 i at'
 ·intro k u t v x y N a h1 _ _ _ _ _ _ e;omega
 ·intro k u t v x y N a h1 _ _ _ _ _ _ e;omega
theorem Gr.out1(h:Gr k u x N a)(hk:k<=1)(i:Nat)(at':Int):uU xX u i 0 at'=at':=by
 refine Gr.ind (R:=fun k u _ _ _=>k<=1->∀(i:Nat) (at':Int),uU xX u i 0 at'=at') ?_ ?_ ?_ ?_ ?_ h hk i at'
 ·intro k u N a h1 _ _ i at';exact jM xX (.inl rfl) u h1.2 i 0 at'
 ·intro k t u x N a h1 _ _ ih _ i at'
  rw[uU,h1,wY,tg (by rintro⟨_,e⟩;exact absurd e (by decide)),ih (by decide)]
 ·intro k o u c x N a h1 h2 h3 _ _ i at';exact dB xX (.inl rfl) h1 h2 h3 i at'
 ·intro k u t v x y N a _ h2 _ h4 _ ihu ihv _ i at'
  rw[qS,ihu (by decide),h4.op,uU,h2,cC,tg (by rintro⟨_,e⟩;exact absurd e (by decide)),ihv (by decide)]
 ·intro k u t v x y N a h1 _ _ _ _ _ _ e;omega
theorem Gr.pos(h:Gr k u x N a):0<u.length:=by
 refine Gr.ind (R:=fun _ u _ _ _=>0<u.length) ?_ ?_ ?_ ?_ ?_ h
 ·intro k u N a h1 _;exact fw.2 h1.1
 ·intro k t u x N a _ _ _ _;simp
 ·intro k o u c x N a _ _ _ _;simp
 ·intro k u t v x y N a _ _ _ _ _ _ _;simp only[tq,p7];omega
 ·intro k u t v x y N a _ _ _ _ _ _ _;simp only[tq,p7];omega
theorem Gr.bound(h:Gr k u x N a):0<=a/\a<N.length:=by
 refine Gr.ind (R:=fun _ _ _ N a=>0<=a/\a<(N.length:Int)) ?_ ?_ ?_ ?_ ?_ h
 ·intro k u N a _ h;exact⟨h.1,h.2.1⟩
 ·intro k t u x N a _ h _ _;exact⟨h.1,h.2.1⟩
 ·intro k o u c x N a _ _ _ ih;exact ih
 ·intro k u t v x y N a _ _ h _ _ _ _;exact⟨h.1,h.2.1⟩
 ·intro k u t v x y N a _ _ h _ _ _ _;exact⟨h.1,h.2.1⟩
theorem Gr.noEnd(h:Gr k u x N a):∀t∈u,zR t.2≠qN:=by
 refine Gr.ind (R:=fun _ u _ _ _=>∀t∈u,zR t.2≠qN) ?_ ?_ ?_ ?_ ?_ h
 ·intro k u N a h1 _ t ht;exact(h1.2 t ht).2.2.2.2.1
 ·intro k o u x N a h1 _ _ ih t ht
  rcases pi.1 ht with rfl|ht
  ·rw[h1];decide
  ·exact ih t ht
 ·intro k o u c x N a h1 h2 _ ih t ht
  rcases pi.1 ht with rfl|ht
  ·rw[h1];decide
  ·rcases pt.1 ht with ht|ht
   ·exact ih t ht
   ·obtain rfl:=pu.1 ht;rw[h2];decide
 ·intro k u o v x y N a _ h2 _ _ _ ihu ihv t ht
  rcases pt.1 ht with ht|ht
  ·exact ihu t ht
  ·rcases pi.1 ht with rfl|ht
   ·rw[h2];decide
   ·exact ihv t ht
 ·intro k u o v x y N a _ h2 _ _ _ ihu ihv t ht
  rcases pt.1 ht with ht|ht
  ·exact ihu t ht
  ·rcases pi.1 ht with rfl|ht
   ·rw[h2];decide
   ·exact ihv t ht
end gr
theorem vk(h:Gr k u x N a)(n:Nat)(hn:u.length<n):pV n u=x/\qJ n u=true:=by
 refine Gr.ind (R:=fun _ u x _ _=>∀n,u.length<n->pV n u=x/\qJ n u=true) ?_ ?_ ?_ ?_ ?_ h n hn
 ·intro k u N a h _ n hn
  obtain⟨n,rfl⟩:∃m,n=m+1:=⟨n-1,by omega⟩;have e1:yF u xX = -1:=jM xX (.inl rfl) u h.2 0 0 (-1);have e2:yF u yE = -1:=jM yE (.inr rfl) u h.2 0 0 (-1)
  have hp:tN (zR (u.getD 0 (0,[])).2):=by
   obtain⟨h1,h2⟩:=h
   cases u with
   | nil=>exact absurd rfl h1
   | cons t r=>exact h2 t (mw ..)
  have hl:0<u.length:=fw.2 h.1;rw[pV,qJ,e1,e2,tg (by omega),tg (by omega),tg hp.2.2.2.2.2,tg hp.2.2.2.1,tg (by omega),tg (by omega),tg hp.2.2.2.2.2,tg hp.2.2.2.1];exact⟨rfl,tm hl⟩
 ·intro k t u x N a h1 h2 h3 ih n hn
  obtain⟨n,rfl⟩:∃m,n=m+1:=⟨n-1,by omega⟩;have hW:Gr 0 (t::u) (QE x) N a:=bH.neg _ _ _ _ _ _ h1 h2 h3;have e1:yF (t::u) xX = -1:=hW.out0 xX (.inl rfl) 0 (-1);have e2:yF (t::u) yE = -1:=hW.out0 yE (.inr rfl) 0 (-1);have hc:zR ((t::u).getD 0 (0,[])).2=yW:=h1;obtain⟨i1,i2⟩:=ih n (by simp at hn;omega);rw[pV,qJ,e1,e2,tg (by omega),tg (by omega),tj hc,tg (by omega),tg (by omega),tj hc];simp only[List.drop_succ_cons,List.drop_zero,i1,i2,QE,p7];exact⟨trivial,by simp⟩
 ·intro k o u c x N a h1 h2 h3 ih n hn
  obtain⟨n,rfl⟩:∃m,n=m+1:=⟨n-1,by omega⟩;have e1:yF (o::(u++[c])) xX = -1:=dB xX (.inl rfl) h1 h2 h3 0 (-1);have e2:yF (o::(u++[c])) yE = -1:=dB yE (.inr rfl) h1 h2 h3 0 (-1);have hc:zR ((o::(u++[c])).getD 0 (0,[])).2=yP:=h1;have hc':¬zR ((o::(u++[c])).getD 0 (0,[])).2=yW:=by rw[hc];decide
  have hp:=h3.pos;obtain⟨i1,i2⟩:=ih n (by simp at hn;omega);rw[pV,qJ,e1,e2,tg (by omega),tg (by omega),tg hc',tj hc,tg (by omega),tg (by omega),tg hc',tj hc];have e3:((o::(u++[c])).drop 1).take ((o::(u++[c])).length-2)=u:=by simp
  rw[e3,i1,i2];refine⟨rfl,?_⟩;simp;omega
 ·intro k u t v x y N a h1 h2 h3 h4 h5 ihu ihv n hn
  obtain⟨n,rfl⟩:∃m,n=m+1:=⟨n-1,by omega⟩;have hW:Gr 1 (u++t::v) (UC x y) N a:=bH.and _ _ _ _ _ _ _ _ (t9 _) h2 h3 h4 h5;have e1:yF (u++t::v) xX = -1:=hW.out1 (t9 _) 0 (-1)
  have e2:yF (u++t::v) yE=u.length:=by
   unfold yF;rw[qS,h4.op,uU,h2,cC,tj ⟨rfl,rfl⟩,h5.out0 yE (.inr rfl)];omega
  obtain⟨x1,x2⟩:=vm (n:=n) e1 e2;have hl:(u++t::v).length=u.length+1+v.length:=by simp;omega
  obtain⟨i1,i2⟩:=ihu n (by omega);obtain⟨j1,j2⟩:=ihv n (by omega);have t1:(u++t::v).take u.length=u:=by simp
  have t2:(u++t::v).drop (u.length+1)=v:=by simp
  rw[t1,t2,i1,j1]at x1;rw[t1,t2,i2,j2]at x2;exact⟨x1,x2⟩
 ·intro k u t v x y N a h1 h2 h3 h4 h5 ihu ihv n hn
  obtain⟨n,rfl⟩:∃m,n=m+1:=⟨n-1,by omega⟩
  have e2:yF (u++t::v) xX=u.length:=by
   unfold yF;rw[qS,h4.op,uU,h2,rX,tj ⟨rfl,rfl⟩,h5.out1 (t9 _)];omega
  obtain⟨x1,x2⟩:=zC2 (n:=n) e2;have hl:(u++t::v).length=u.length+1+v.length:=by simp;omega
  obtain⟨i1,i2⟩:=ihu n (by omega);obtain⟨j1,j2⟩:=ihv n (by omega);have t1:(u++t::v).take u.length=u:=by simp
  have t2:(u++t::v).drop (u.length+1)=v:=by simp
  rw[t1,t2,i1,j1]at x1;rw[t1,t2,i2,j2]at x2;exact⟨x1,x2⟩
theorem YR{M:List zX}(h:a<N.length):a<((N++M).length:Int):=by simp only[tq];omega
theorem Gr.ext(h:Gr k u x N a)(M:List zX):Gr k u x (N++M) a:=by
 refine Gr.ind (R:=fun k u x N a=>Gr k u x (N++M) a) ?_ ?_ ?_ ?_ ?_ h
 ·intro k u N a h1 h
  have e:qZ (N++M) a.toNat=qZ N a.toNat:=Zf (by have:=h.1;have:=h.2.1;omega);refine bH.test _ _ _ _ h1 ⟨h.1,YR h.2.1,?_⟩;rw[e];exact h.2.2
 ·intro k t u x N a h1 h _ ih
  have e:qZ (N++M) a.toNat=qZ N a.toNat:=Zf (by have:=h.1;have:=h.2.1;omega);have el:lf (N++M) a=lf N a:=by unfold lf;rw[e]
  exact bH.neg _ _ _ _ _ _ h1 ⟨h.1,YR h.2.1,by rw[e];exact h.2.2.1,by rw[el];exact h.2.2.2⟩ (by rw[el];exact ih)
 ·intro k o u c x N a h1 h2 _ ih;exact bH.br _ _ _ _ _ _ _ h1 h2 ih
 ·intro k u t v x y N a h1 h2 h _ _ ihu ihv
  have e:qZ (N++M) a.toNat=qZ N a.toNat:=Zf (by have:=h.1;have:=h.2.1;omega);have el:lf (N++M) a=lf N a:=by unfold lf;rw[e]
  have er:rg (N++M) a=rg N a:=by unfold rg;rw[e]
  exact bH.and _ _ _ _ _ _ _ _ h1 h2 ⟨h.1,YR h.2.1,by rw[e];exact h.2.2.1,by rw[el];exact h.2.2.2.1,by rw[er];exact h.2.2.2.2⟩ (by rw[el];exact ihu) (by rw[er];exact ihv)
 ·intro k u t v x y N a h1 h2 h _ _ ihu ihv
  have e:qZ (N++M) a.toNat=qZ N a.toNat:=Zf (by have:=h.1;have:=h.2.1;omega);have el:lf (N++M) a=lf N a:=by unfold lf;rw[e]
  have er:rg (N++M) a=rg N a:=by unfold rg;rw[e]
  exact bH.or _ _ _ _ _ _ _ _ h1 h2 ⟨h.1,YR h.2.1,by rw[e];exact h.2.2.1,by rw[el];exact h.2.2.2.1,by rw[er];exact h.2.2.2.2⟩ (by rw[el];exact ihu) (by rw[er];exact ihv)
theorem Gr.kind(h:Gr k u x N a):((qZ N a.toNat).kind=1/\x.2=2)\/((qZ N a.toNat).kind=2/\x.2=1)\/(¬(qZ N a.toNat).kind=1/\¬(qZ N a.toNat).kind=2/\x.2=0):=by
 refine Gr.ind (R:=fun _ _ x N a=>((qZ N a.toNat).kind=1/\x.2=2)\/((qZ N a.toNat).kind=2/\x.2=1)\/(¬(qZ N a.toNat).kind=1/\¬(qZ N a.toNat).kind=2/\x.2=0)) ?_ ?_ ?_ ?_ ?_ h
 ·intro k u N a _ h;have h3:=h.2.2.1;exact .inr (.inr ⟨by omega,by omega,rfl⟩)
 ·intro k t u x N a _ h _ _;have h3:=h.2.2.1;exact .inr (.inr ⟨by omega,by omega,rfl⟩)
 ·intro k o u c x N a _ _ _ ih;exact ih
 ·intro k u t v x y N a _ _ h _ _ _ _;exact .inr (.inl ⟨h.2.2.1,rfl⟩)
 ·intro k u t v x y N a _ _ h _ _ _ _;exact .inl ⟨h.2.2.1,rfl⟩
theorem Do(hr:Gr k u x N a){f:Nat->fP->fP}(hf:∀st,f a.toNat st=yU x.1 st)(st:fP):Dp N f a.toNat st=yU (if x.2=2 then UW x.1 else x.1) st:=by
 unfold Dp;rcases hr.kind with ⟨h1,h2⟩|⟨h1,h2⟩|⟨h1,_,h2⟩
 ·rw[tj h1,tj h2,hf,Xb]
 ·rw[tg (by omega),tg (by omega),hf]
 ·rw[tg h1,tg (by omega),hf]
theorem zG5(hr:Gr k u x N a){f:Nat->fP->fP}(hf:∀st,f a.toNat st=yU x.1 st)(st:fP):zG6 N f a.toNat st=yU (if 0<x.2 then UW x.1 else x.1) st:=by
 unfold zG6;rcases hr.kind with ⟨h1,h2⟩|⟨h1,h2⟩|⟨h1,h3,h2⟩
 ·rw[tj (.inl h1),tj (by omega),hf,Xb]
 ·rw[tj (.inr h1),tj (by omega),hf,Xb]
 ·rw[tg (by omega),tg (by omega),hf]
theorem w_gr(h:Gr k u x N a)(m:Nat)(st:fP)(hm:a.toNat<m):gU N m a.toNat st=yU x.1 st:=by
 refine Gr.ind (R:=fun _ _ x N a=>∀(m:Nat) (st:fP),a.toNat<m->gU N m a.toNat st=yU x.1 st) ?_ ?_ ?_ ?_ ?_ h m st hm
 ·intro k u N a hk h m st hm
  obtain⟨m,rfl⟩:∃j,m=j+1:=⟨m-1,by omega⟩;have h3:=h.2.2.1;rw[gU,tg (by omega),tg (by omega),tg (by omega),h.2.2.2.1,nW hk.1]
 ·intro k t u x N a _ h hg ih m st hm
  obtain⟨m,rfl⟩:∃j,m=j+1:=⟨m-1,by omega⟩;have h3:=h.2.2.1;have hb:=hg.bound;have hl:=h.2.2.2;rw[gU,tg (by omega),tg (by omega),tj h3,zG5 hg (fun st=>ih m st (by omega)),<-lG,QE];rfl
 ·intro k o u c x N a _ _ _ ih;exact ih
 ·intro k u t v x y N a _ _ h hu hv ihu ihv m st hm
  obtain⟨m,rfl⟩:∃j,m=j+1:=⟨m-1,by omega⟩;obtain⟨h1,h2,h3,h4,h5⟩:=h;have hb:=hu.bound;have hc:=hv.bound;rw[gU,tg (by omega),tj h3,Do hv (fun st=>ihv m st (by omega)),Do hu (fun st=>ihu m st (by omega)),<-lG,<-lG,UC];simp[yE]
 ·intro k u t v x y N a _ _ h hu hv ihu ihv m st hm
  obtain⟨m,rfl⟩:∃j,m=j+1:=⟨m-1,by omega⟩;obtain⟨h1,h2,h3,h4,h5⟩:=h;have hb:=hu.bound;have hc:=hv.bound;rw[gU,tj h3,ihu m _ (by omega),ihv m _ (by omega),<-lG,<-lG,orT];simp[xX]
theorem YJ{c:UInt8}(h:so c=2):48<=c.toNat/\c.toNat<=57:=by
 unfold so tS at h;split at h
 ·omega
 ·split at h
  ·omega
  ·split at h <;> omega
def Q6:Nat->List Nat->Nat
 | a,[]=>a
 | a,d::r=>Q6 (10*a+d) r
def ZR(s:Bs):List Nat:=s.map fun c=>c.toNat-48
theorem QO(a:Int)(c:UInt8)(r:Bs):xF a (c::r)=xF (10*a+((c.toNat:Int)-48)) r:=rfl
theorem zFJ:∀(a:Nat),(∀c∈s,so c=2)->xF a s=Q6 a (ZR s):=by
 induction s with
 | nil=>intro a _;rfl
 | cons c r ih =>
   intro a h;have h1:=YJ (h c (mw ..));have h2:=ih (10*a+(c.toNat-48)) (fun x hx=>h x (cd _ hx));unfold ZR at h2 ⊢;rw[QO,dm,Q6,<-h2];congr 1;omega
theorem zBZ(s:List Nat):∀(a:Nat),(∀d∈s,d<=9)->Q6 a s+1<=(a+1)*10 ^ s.length:=by
 induction s with
 | nil=>intro a _;simp[Q6]
 | cons d r ih =>
   intro a h;have h1:=h d (mw ..);rw[Q6,p7,Nat.pow_succ];have h2:=ih (10*a+d) (fun x hx=>h x (cd _ hx));refine tx h2 ?_;have h3:(10*a+d+1)<=(a+1)*10:=by omega
   have h4:=Nat.mul_le_mul_right (10 ^ r.length) h3;rw[Nat.mul_assoc]at h4;rw[Nat.mul_comm (10 ^ r.length) 10];exact h4
theorem DZ(h:∀c∈s,so c=2):∀d∈ZR s,d<=9:=by
 intro d hd;unfold ZR at hd;obtain⟨c,hc,rfl⟩:=mn.1 hd;have h1:=YJ (h c hc);omega
theorem zAN{u d:Nat}(h:1<=u)(hd:d<10):Lib.decDigits (10*u+d)=Lib.decDigits u++[UInt8.ofNat (48+d)]:=by
 rw[Lib.decDigits,dif_neg (by omega),show (10*u+d)/10=u by omega,show (10*u+d)%10=d by omega]
theorem zu{c:UInt8}(h:48<=c.toNat):UInt8.ofNat (48+(c.toNat-48))=c:=by
 rw[show 48+(c.toNat-48)=c.toNat by omega];simp
theorem zE5(s:List Nat):∀(a:Nat),1<=a->(∀d∈s,d<=9)->Lib.decDigits (Q6 a s)=Lib.decDigits a++s.map (fun d=>UInt8.ofNat (48+d)):=by
 induction s with
 | nil=>intro a _ _;simp[Q6]
 | cons d r ih =>
   intro a ha h;have h1:=h d (mw ..);rw[Q6,ih _ (by omega) (fun x hx=>h x (cd _ hx)),zAN ha (by omega)];simp
theorem zb(h:∀c∈s,so c=2):(ZR s).map (fun d=>UInt8.ofNat (48+d))=s:=by
 induction s with
 | nil=>rfl
 | cons c r ih =>
   have h1:=YJ (h c (mw ..));have h2:=ih (fun x hx=>h x (cd _ hx));unfold ZR at h2 ⊢;rw[dm,dm,h2,zu h1.1]
def UH(s:Bs):Prop:=s≠[]/\(so (s.getD 0 0)=2->∀c∈s,so c=2)
theorem X2{s:Bs}(h:UH s)(hc:zR s=yA):(0<=xF 0 s/\xF 0 s<=9999)/\Lib.itoa (xF 0 s)=s:=by
 have hk:=(oL s).2 hc;unfold vS at hk;split at hk
 ·split at hk
  ·exact absurd hk (by decide)
  ·split at hk <;> exact absurd hk (by decide)
 ·split at hk
  ·rename_i _ h2
   split at hk
   ·exact absurd hk (by decide)
   ·rename_i h3
    have hd:=h.2 h2;have e:=zFJ s 0 hd;have hl:=zBZ (ZR s) 0 (DZ s hd);have hln:(ZR s).length=s.length:=by simp[ZR]
    rw[hln]at hl;have h4:s.length<=4:=by omega
    have h5:10 ^ s.length<=10 ^ 4:=Nat.pow_le_pow_right (by decide) h4;refine⟨⟨by rw[show (0:Int)=((0:Nat):Int) from rfl,e];omega,by rw[show (0:Int)=((0:Nat):Int) from rfl,e];omega⟩,?_⟩;rw[show (0:Int)=((0:Nat):Int) from rfl,e,Lib.itoa,tg (by omega),Int.toNat_natCast];have hb:=zb s hd;have hle:=DZ s hd
    cases hs:s with
    | nil=>exact absurd hs h.1
    | cons c r =>
      rw[hs]at hd hb hle h3;have h6:=YJ (hd c (mw ..));have ed:ZR (c::r)=(c.toNat-48)::ZR r:=by unfold ZR;rw[dm]
      rw[ed]at hb hle ⊢;rw[Q6];generalize hz:c.toNat-48=z at hb hle ⊢;by_cases hz0:z=0
      ·have hc0:c=48:=by
        apply UInt8.toNat_inj.1;show c.toNat=48;omega
       have hr:r=[]:=by
        cases r with
        | nil=>rfl
        | cons x y=>exact absurd (Or.inr ⟨by simp,by simpa using hc0⟩) h3
       subst hr;rw[hz0,hc0];show Lib.decDigits 0=[48];rw[Lib.decDigits,dif_pos (by omega)];rfl
      ·rw[zE5 (ZR r) _ (by omega) (fun x hx=>hle x (cd _ hx)),Lib.decDigits,dif_pos (by have:=hle z (mw ..);omega),show 10*0+z=z by omega]
       rw[dm]at hb;exact hb
  ·split at hk <;> exact absurd hk (by decide)
theorem FC(k:Int)(l:Bs):∀c∈l.take (tH k l),so c=k:=by
 induction l with
 | nil=>intro c h;simp at h
 | cons x r ih =>
   intro c h;rw[tH]at h;split at h
   ·rename_i hx
    rw[List.take_succ_cons]at h;rcases pi.1 h with rfl|h
    ·exact hx
    ·exact ih c h
   ·simp at h
theorem FU:∀(l:Bs) (p:Nat),∀t∈tB n l p,UH t.2:=by
 induction n with
 | zero=>intro l p t h;simp[tB]at h
 | succ n ih =>
   intro l p t h;rw[tB]at h;split at h
   ·simp at h
   ·split at h
    ·exact ih _ _ t h
    ·rename_i h0 _
     rcases pi.1 h with rfl|h
     ·cases l with
      | nil=>exact absurd rfl h0
      | cons c r =>
        have hp:=nB (c::r);obtain⟨m,hm⟩:∃m,vZ (c::r)=m+1:=⟨vZ (c::r)-1,by omega⟩;simp only[hm,List.take_succ_cons];refine⟨by simp,?_⟩;intro hs;have hs':so c=2:=hs
        have e:m=tH 2 r:=by
         unfold vZ at hm;simp only[List.getD_cons_zero,hs',List.drop_succ_cons,List.drop_zero]at hm;rw[tg (by decide)]at hm;omega
        intro x hx;rcases pi.1 hx with rfl|hx
        ·exact hs'
        ·exact FC 2 r x (by rw[<-e];exact hx)
     ·exact ih _ _ t h
def fM(ts:zG):Prop:=∀t∈ts,UH t.2
theorem QP(l:Bs):fM (yR l 0):=FU _ _ _
theorem fM.at'(h:fM ts)(hi:i<ts.length):UH (tA ts i):=by
 unfold tA;rw[List.getD,pe hi];exact h _ (List.getElem_mem hi)
theorem zp:∀c∈jD,tN c/\c.isEmpty=false:=by decide
def bK:Bs:=[102,97,99,116]
def JZ:Bs:=[104,97,115]
def uh:Bs:=[116,104,97,110]
def Zl:Bs:=[97,108,119,97,121,115]
theorem zAP(i:Nat):vT P (i,true)=([],(i,true)):=by
 unfold vT;split <;> rfl
def zI7(x:zX)(u:zG):Prop:=(4<=x.kind/\x.kind<=7)/\(0<=x.num/\x.num<=9999)/\(∀st,KZ x st=kY u st)/\zF5 x u
abbrev TT(ts:zG)(i:Nat):Nat × Bs:=ts.getD i (0,[])
theorem Cf:jQ bK=[yW,yP,Zl,JZ,yT]:=by decide
theorem Gp:jQ JZ=[yT]:=by decide
theorem Cc:jQ uh=[yT,yA]:=by decide
theorem zC3{c:Bs}{op:Int}(h:c∈jD):zO uQ c op=uh/\opn c op=op:=by
 simp only[jD,pi,ld,dn]at h;rcases h with rfl|rfl|rfl|rfl|rfl|rfl <;> exact⟨rfl,rfl⟩
def zEK(ts:zG)(len i:Nat)(op:Int)(r:zX × St):Prop :=
 (r.2.2=true/\FA ts len i bK op=((yV (pp ts len) r.2.1).p:Int)) \/
 (r.2.2=false/\i<r.2.1/\r.2.1<=ts.length/\FA ts len i bK op=FA ts len r.2.1 qF op/\∃u,ts.drop i=u++ts.drop r.2.1/\JR u/\zI7 r.1 u/\rA u (V3 r.1))
theorem iT:∀c∈jD,c≠yT/\c≠[104,97,115]:=by decide
theorem Zc{p nx:Bs}(hp:p≠[104,97,115])(h:p∈jD\/nx∈jD):mU p nx=2:=by unfold mU;rw[tg hp,tj h]
theorem Ko{p nx:Bs}(hp:neut p)(h:nx ∉ jD):mU p nx=3:=by unfold mU;rw[tg hp.1,tg (by rintro(h' | h');exact hp.2 h';exact h h')]
theorem vp{len:Nat}(zJ1:fM ts)(h:i<=ts.length)(op:Int)(hn:cA ts i≠yW)(ho:cA ts i≠yP):zEK ts len i op (vA (pp ts len) (i,false)):=by
 rcases cS (len:=len) h (t:=Zl) (by decide) with ⟨hc,hi,e⟩|⟨hc,e⟩
 ·have hw:=(cN (by decide) hc).2
  have e':vA (pp ts len) (i,false)=(⟨4,0,0,[],[],[],0⟩,(i+1,false)):=by
   unfold Zl at e;simp only[vA,e]
  rw[e'];refine .inr ⟨rfl,mh _,hi,uX hi hc rfl (by decide) rfl,[TT ts i],zJ ts i hi,⟨by simp,?_⟩,⟨by simp,by simp,?_,.inl ⟨rfl,_,rfl,hc⟩⟩,?_⟩
  ·intro t ht;obtain rfl:=pu.1 ht
   show tN (cA ts i);rw[hc];decide
  ·intro st;show yU _ st=yU (tA ts i) st;rw[hw];rfl
  ·intro p nx _ _
   have h8:zR (TT ts i).2=Zl:=hc;rw[qT,h8,tg (by decide),qT];rfl
 unfold Zl at e;rcases cS (len:=len) h (t:=JZ) (by decide) with ⟨hc2,hi,e2⟩|⟨hc2,e2⟩
 ·have hw:=(cN (by decide) hc2).2
  unfold JZ at e2;have hf:FA ts len i bK op=FA ts len (i+1) JZ op:=uX hi hc2 rfl (by decide) rfl;rcases fE (len:=len) (show i+1<=ts.length from hi) with ⟨hc3,hi3,e3⟩|⟨hc3,e3⟩
  ·have e':vA (pp ts len) (i,false)=(⟨5,0,0,tA ts (i+1),[],[],0⟩,(i+1+1,false)):=by
    simp only[vA,e,e2,e3]
   rw[e'];refine .inr ⟨rfl,(by show i<i+1+1;omega),hi3,hf.trans (uX hi3 hc3 rfl (by decide) rfl),[TT ts i,TT ts (i+1)],?_,⟨by simp,?_⟩,⟨by simp,by simp,?_,.inr (.inl ⟨rfl,_,_,rfl,hc2,hc3,rfl⟩)⟩,?_⟩
   ·rw[zJ ts i hi,zJ ts (i+1) hi3];rfl
   ·intro t ht
    simp only[pi,ld,dn]at ht;rcases ht with rfl|rfl
    ·show tN (cA ts i);rw[hc2];decide
    ·show tN (cA ts (i+1));rw[hc3];decide
   ·intro st;show yU _ (yU _ st)=yU (tA ts (i+1)) (yU (tA ts i) st);rw[hw];rfl
   ·intro p nx _ _
    have h8:zR (TT ts i).2=JZ:=hc2;have h9:zR (TT ts (i+1)).2=yT:=hc3;rw[qT,h8,tg (by decide),qT,h9,tj rfl,qT];show []++([(mU JZ nx,tA ts (i+1))]++[])=_;rw[show mU JZ nx=1 from tj rfl];rfl
  ·have e':(vA (pp ts len) (i,false)).2=(i+1,true):=by
    simp only[vA,e,e2,e3]
   refine .inl ⟨by rw[e'],?_⟩;rw[e',hf];exact gP hi (mT (by decide) (by decide) (by rw[Gp];simpa using hc3)) (.inr (by decide))
 unfold JZ at e2;rcases fE (len:=len) h with ⟨hc3,hi3,e3⟩|⟨hc3,e3⟩
 ·have hf:FA ts len i bK op=FA ts len (i+1) uQ op:=uX hi3 hc3 rfl (by decide) rfl
  rcases zGU (len:=len) (show i+1<=ts.length from hi3) with ⟨hc4,hi4,hw4,e4⟩|⟨hc4,e4⟩
  ·obtain⟨n1,n2⟩:=zC3 (op:=op) hc4
   obtain⟨q1,q2⟩:=zp _ hc4;have hf2:FA ts len i bK op=FA ts len (i+1+1) uh op:=hf.trans (uX hi4 rfl n1 (by decide) n2);have hi5:i+1+1<=ts.length:=hi4;rcases wZ (len:=len) hi5 with ⟨hc6,hi6,e6⟩|⟨hc6,e6⟩
   ·have e5:=YT (len:=len) hi5 false
    rw[tm hc6]at e5
    have e':vA (pp ts len) (i,false)=(⟨7,0,0,tA ts i,cA ts (i+1),[],xF 0 (tA ts (i+1+1))⟩,(i+1+1+1,false)):=by
     simp only[vA,e,e2,e3,e4,q2,e5,e6]
    obtain⟨v1,v2⟩:=X2 (zJ1.at' hi6) hc6;rw[e'];refine .inr ⟨rfl,(by show i<i+1+1+1;omega),hi6,hf2.trans (uX hi6 hc6 rfl (by decide) rfl),[TT ts i,TT ts (i+1),TT ts (i+1+1)],?_,⟨by simp,?_⟩,⟨by simp,v1,?_,.inr (.inr (.inr ⟨rfl,_,_,_,rfl,hc3,rfl,(by show tA ts (i+1)∈jD;rw[hw4];exact hc4),hw4.symm,.inl ⟨hc6,rfl,rfl⟩⟩))⟩,?_⟩
    ·rw[zJ ts i hi3,zJ ts (i+1) hi4,zJ ts (i+1+1) hi6];rfl
    ·intro t ht
     simp only[pi,ld,dn]at ht;rcases ht with rfl|rfl|rfl
     ·show tN (cA ts i);rw[hc3];decide
     ·exact q1
     ·show tN (cA ts (i+1+1));rw[hc6];decide
    ·intro st
     show eK (xF 0 (tA ts (i+1+1))) (yU (cA ts (i+1)) (yU (tA ts i) st))=yU (tA ts (i+1+1)) (yU (tA ts (i+1)) (yU (tA ts i) st));rw[eK,v2,hw4]
    ·intro p nx hp _
     have h7:zR (TT ts i).2=yT:=hc3;have h8:zR (TT ts (i+1)).2≠yT:=(iT _ hc4).1;have h9:zR (TT ts (i+1+1)).2=yA:=hc6;rw[qT,h7,tj rfl,qT,tg h8,qT,h9,tg (by decide),qT];show [(mU p (cA ts (i+1)),tA ts i)]++([]++([]++[]))=_;rw[Zc hp.1 (.inr hc4)];rfl
   ·have e5:=YT (len:=len) hi5 false
    rw[th hc6]at e5;rcases fE (len:=len) hi5 with ⟨hc7,hi7,e7⟩|⟨hc7,e7⟩
    ·have e':vA (pp ts len) (i,false)=(⟨7,0,0,tA ts i,cA ts (i+1),tA ts (i+1+1),0⟩,(i+1+1+1,false)):=by
      simp only[vA,e,e2,e3,e4,q2,e5,e7]
     have zIM:(tA ts (i+1+1)).isEmpty=false:=by
      have:=(zJ1.at' hi7).1
      cases hx:tA ts (i+1+1) with
      | nil=>exact absurd hx this
      | cons a b=>rfl
     rw[e'];refine .inr ⟨rfl,(by show i<i+1+1+1;omega),hi7,hf2.trans (uX hi7 hc7 rfl (by decide) rfl),[TT ts i,TT ts (i+1),TT ts (i+1+1)],?_,⟨by simp,?_⟩,⟨by simp,by simp,?_,.inr (.inr (.inr ⟨rfl,_,_,_,rfl,hc3,rfl,(by show tA ts (i+1)∈jD;rw[hw4];exact hc4),hw4.symm,.inr ⟨hc7,rfl,(zJ1.at' hi7).1⟩⟩))⟩,?_⟩
     ·rw[zJ ts i hi3,zJ ts (i+1) hi4,zJ ts (i+1+1) hi7];rfl
     ·intro t ht
      simp only[pi,ld,dn]at ht;rcases ht with rfl|rfl|rfl
      ·show tN (cA ts i);rw[hc3];decide
      ·exact q1
      ·show tN (cA ts (i+1+1));rw[hc7];decide
     ·intro st
      show KZ ⟨7,0,0,tA ts i,cA ts (i+1),tA ts (i+1+1),0⟩ st=yU (tA ts (i+1+1)) (yU (tA ts (i+1)) (yU (tA ts i) st));rw[hw4];unfold KZ;simp only[zIM];rfl
     ·intro p nx hp _
      have h7:zR (TT ts i).2=yT:=hc3;have h8:zR (TT ts (i+1)).2≠yT:=(iT _ hc4).1;have h9:zR (TT ts (i+1+1)).2=yT:=hc7;rw[qT,h7,tj rfl,qT,tg h8,qT,h9,tj rfl,qT];show [(mU p (cA ts (i+1)),tA ts i)]++([]++([(mU (cA ts (i+1)) nx,tA ts (i+1+1))]++[]))=(2,tA ts i)::(if tA ts (i+1+1)=[] then [] else [(2,tA ts (i+1+1))]);rw[Zc hp.1 (.inr hc4),Zc (iT _ hc4).2 (.inl hc4),tg (zJ1.at' hi7).1];rfl
    ·have e':(vA (pp ts len) (i,false)).2=(i+1+1,true):=by
      simp only[vA,e,e2,e3,e4,q2,e5,e7]
     refine .inl ⟨by rw[e'],?_⟩;rw[e',hf2];exact gP hi5 (mT (by decide) (by decide) (by rw[Cc];simp[hc6,hc7])) (.inr (by decide))
  ·have e':vA (pp ts len) (i,false)=(⟨6,0,0,tA ts i,[],[],0⟩,(i+1,false)):=by
    simp only[vA,e,e2,e3,e4,List.isEmpty_nil]
   rw[e'];refine .inr ⟨rfl,mh _,hi3,hf.trans (zBK hc4),[TT ts i],zJ ts i hi3,⟨by simp,?_⟩,⟨by simp,by simp,?_,.inr (.inr (.inl ⟨rfl,_,rfl,hc3,rfl⟩))⟩,?_⟩
   ·intro t ht;obtain rfl:=pu.1 ht
    show tN (cA ts i);rw[hc3];decide
   ·intro st;rfl
   ·intro p nx hp hx
    have h7:zR (TT ts i).2=yT:=hc3;rw[qT,h7,tj rfl,qT];show [(mU p nx,tA ts i)]++[]=_;rw[Ko hp hx];rfl
 ·have e':(vA (pp ts len) (i,false)).2=(i,true):=by
   simp only[vA,e,e2,e3,zAP,List.isEmpty_nil]
  refine .inl ⟨by rw[e'],?_⟩;rw[e'];exact gP h (mT (by decide) (by decide) (by rw[Cf];simp[hn,ho,hc,hc2,hc3])) (.inr (by decide))
theorem Ze(N:List zX)(z:zX):qZ (N++[z]) N.length=z:=by
 unfold qZ;simp[List.getD]
def BW(z:zX)(a:Int):Prop :=
 (z.kind=1->0<=z.left/\z.left<a/\0<=z.right/\z.right<a) /\
 (z.kind=2->0<=z.left/\z.left<a/\0<=z.right/\z.right<a) /\
 (z.kind=3->0<=z.left/\z.left<a) /\
 (¬z.kind=1->¬z.kind=2->¬z.kind=3->(4<=z.kind/\z.kind<=7)/\0<=z.num/\z.num<=9999)
theorem cQ.add{z:zX}(h:cQ N)(hz:BW z N.length):cQ (N++[z]):=by
 intro a ha;rcases po a N.length with h1|h1
 ·rw[Zf h1];exact h a h1
 ·have e:a=N.length:=by rw[tq,pd]at ha;omega
  subst e;rw[Ze];exact hz
theorem aL:cQ []:=by intro a ha;exact absurd ha (by simp)
def aX(u:zG)(y:Int × Int):Prop:=∀n,u.length<n->yD n u=y
theorem zBW(h:JR u):aX u (1,0):=by
 intro n hn;obtain⟨n,rfl⟩:∃m,n=m+1:=⟨n-1,by omega⟩;have e1:yF u xX = -1:=jM xX (.inl rfl) u h.2 0 0 (-1);have e2:yF u yE = -1:=jM yE (.inr rfl) u h.2 0 0 (-1)
 have hp:tN (zR (u.getD 0 (0,[])).2):=by
  obtain⟨h1,h2⟩:=h
  cases u with
  | nil=>exact absurd rfl h1
  | cons t r=>exact h2 t (mw ..)
 rw[yD,e1,e2,tg (by omega),tg (by omega),tg hp.2.2.2.2.2,tg hp.2.2.2.1]
theorem zFF{y:Int × Int}(h1:zR t.2=yW)(hW:Gr 0 (t::u) x N a)(hy:aX u y):aX (t::u) (y.1,y.2+1):=by
 intro n hn;obtain⟨n,rfl⟩:∃m,n=m+1:=⟨n-1,by omega⟩;have e1:yF (t::u) xX = -1:=hW.out0 xX (.inl rfl) 0 (-1);have e2:yF (t::u) yE = -1:=hW.out0 yE (.inr rfl) 0 (-1);have hc:zR ((t::u).getD 0 (0,[])).2=yW:=h1;rw[yD,e1,e2,tg (by omega),tg (by omega),tj hc];simp only[List.drop_succ_cons,List.drop_zero,hy n (by simp at hn;omega)]
theorem zHP{o c:Nat × Bs}{y:Int × Int}(h1:zR o.2=yP)(h2:zR c.2=xT)(h3:Gr k u x N a)(hy:aX u y):aX (o::(u++[c])) (y.1,y.2+1):=by
 intro n hn;obtain⟨n,rfl⟩:∃m,n=m+1:=⟨n-1,by omega⟩;have e1:yF (o::(u++[c])) xX = -1:=dB xX (.inl rfl) h1 h2 h3 0 (-1);have e2:yF (o::(u++[c])) yE = -1:=dB yE (.inr rfl) h1 h2 h3 0 (-1);have hc:zR ((o::(u++[c])).getD 0 (0,[])).2=yP:=h1;have hc':¬zR ((o::(u++[c])).getD 0 (0,[])).2=yW:=by rw[hc];decide
 rw[yD,e1,e2,tg (by omega),tg (by omega),tg hc',tj hc];have e3:((o::(u++[c])).drop 1).take ((o::(u++[c])).length-2)=u:=by simp
 rw[e3,hy n (by simp at hn;omega)]
theorem zFG{v:zG}{y:Bs × Int}{b:Int}{p q:Int × Int}(h2:zR t.2=yE)(h4:Gr 1 u x N a)(h5:Gr 0 v y N b)(hp:aX u p)(hq:aX v q):aX (u++t::v) (pU p q):=by
 intro n hn;obtain⟨n,rfl⟩:∃m,n=m+1:=⟨n-1,by omega⟩
 have e1:yF (u++t::v) xX = -1:=by
  unfold yF;rw[qS,h4.op,uU,h2,cC,tg (by rintro⟨_,h⟩;exact absurd h (by decide)),h5.out1 (by decide),h4.out1 (t9 _)]
 have e2:yF (u++t::v) yE=u.length:=by
  unfold yF;rw[qS,h4.op,uU,h2,cC,tj ⟨rfl,rfl⟩,h5.out0 yE (.inr rfl)];omega
 have hl:(u++t::v).length=u.length+1+v.length:=by simp;omega
 have t1:(u++t::v).take u.length=u:=by simp
 have t2:(u++t::v).drop (u.length+1)=v:=by simp
 rw[yD,e1,e2,tg (by omega),tj (Int.natCast_nonneg _),Int.toNat_natCast,t1,t2,hp n (by omega),hq n (by omega)]
theorem zHO{v:zG}{y:Bs × Int}{b:Int}{p q:Int × Int}(h2:zR t.2=xX)(h4:Gr 2 u x N a)(h5:Gr 1 v y N b)(hp:aX u p)(hq:aX v q):aX (u++t::v) (pU p q):=by
 intro n hn;obtain⟨n,rfl⟩:∃m,n=m+1:=⟨n-1,by omega⟩
 have e2:yF (u++t::v) xX=u.length:=by
  unfold yF;rw[qS,h4.op,uU,h2,rX,tj ⟨rfl,rfl⟩,h5.out1 (t9 _)];omega
 have hl:(u++t::v).length=u.length+1+v.length:=by simp;omega
 have t1:(u++t::v).take u.length=u:=by simp
 have t2:(u++t::v).drop (u.length+1)=v:=by simp
 rw[yD,e2,tj (Int.natCast_nonneg _),Int.toNat_natCast,t1,t2,hp n (by omega),hq n (by omega)]
def Wt(q:GS)(d:Int)(q':GS)(u:zG):Prop :=
 ∃y L,aX u y/\0<=y.2/\q'.tests=q.tests+y.1/\(q.dep<=q'.dep/\d+y.2<=q'.dep/\(q'.dep=q.dep\/q'.dep=d+y.2))/\rA u L/\tD q'.nd=tD q.nd++L
def UQ(ts:zG)(len k i:Nat)(op d:Int)(q:GS)(r:Int × GS):Prop :=
 (r.2.s.2=true/\FA ts len i bK op=((yV (pp ts len) r.2.s.1).p:Int)) \/
 (r.2.s.2=false/\i<r.2.s.1/\r.2.s.1<=ts.length/\FA ts len i bK op=FA ts len r.2.s.1 qF op/\(∃M,r.2.nd=q.nd++M)/\cQ r.2.nd /\
  (1<=k->cA ts r.2.s.1≠yE)/\(2<=k->cA ts r.2.s.1≠xX) /\
  ∃u x,Gr k u x r.2.nd r.1/\ts.drop i=u++ts.drop r.2.s.1/\Wt q d r.2 u)
theorem mV(item:GS->Int × GS)(tok:Bs)(kind:Int)(k:Nat)(left:Int)(q:GS)(h:q.s.2=true):(mW P item tok kind k left q).2.s=q.s:=by
 cases k with
 | zero=>rfl
 | succ k =>
   obtain⟨⟨i,f⟩,nd,te,de⟩:=q;obtain rfl:f=true:=h;rw[mW];rfl
structure zBI(tok:Bs)(kind:Int)(j:Nat):Prop where
 kw:tok∈zDJ
 next:∀op,zO qF tok op=bK
 opn:∀op,opn tok op=op
 node:∀a l r,0<=l->l<a->0<=r->r<a->BW ⟨kind,l,r,[],[],[],0⟩ a
 make:∀N u t v x y l r,zR t.2=tok->l<(N.length:Int)->r<(N.length:Int)->Gr (j+1) u x (N++[⟨kind,l,r,[],[],[],0⟩]) l->Gr j v y (N++[⟨kind,l,r,[],[],[],0⟩]) r ->
  ∃z,Gr (j+1) (u++t::v) z (N++[⟨kind,l,r,[],[],[],0⟩]) N.length
 wt:∀u t v x y N a b p q,zR t.2=tok->Gr (j+1) u x N a->Gr j v y N b->aX u p->aX v q->aX (u++t::v) (pU p q)
 neut:tok≠yT/\neut tok
 kind:kind=1\/kind=2
 exits:∀c,c≠tok->(1<=j->c≠yE)->(1<=j+1->c≠yE)/\(2<=j+1->c≠xX)
theorem U9(kind l r:Int)(N:List zX)(hl:l<(N.length:Int))(hr:r<(N.length:Int)):zBM kind (N++[⟨kind,l,r,[],[],[],0⟩]) N.length/\lf (N++[⟨kind,l,r,[],[],[],0⟩]) N.length=l/\rg (N++[⟨kind,l,r,[],[],[],0⟩]) N.length=r:=by
 have e:qZ (N++[⟨kind,l,r,[],[],[],0⟩]) (N.length:Int).toNat=⟨kind,l,r,[],[],[],0⟩:=by rw[Int.toNat_natCast];exact Ze _ _
 have el:lf (N++[⟨kind,l,r,[],[],[],0⟩]) N.length=l:=by unfold lf;rw[e]
 have er:rg (N++[⟨kind,l,r,[],[],[],0⟩]) N.length=r:=by unfold rg;rw[e]
 exact⟨⟨by omega,by simp only[tq,pd];omega,by rw[e],by rw[el];exact hl,by rw[er];exact hr⟩,el,er⟩
theorem G6:zBI yE 2 0:={
 kw:=by decide
 next:=fun op=>by rw[aC,tg (by rintro(⟨h,_⟩|⟨h,_⟩) <;> exact absurd h (by decide))];decide
 opn:=cC
 node:=fun a l r h1 h2 h3 h4=>⟨fun e=>absurd (show (2:Int)=1 from e) (by decide),fun _=>⟨h1,h2,h3,h4⟩,fun e=>absurd (show (2:Int)=3 from e) (by decide),fun _ e=>absurd rfl e⟩
 make:=fun N u t v x y l r hc hl hr h1 h2=>by
  obtain⟨hb,el,er⟩:=U9 2 l r N hl hr;exact⟨UC x y,bH.and _ _ _ _ _ _ _ _ (t9 _) hc hb (by rw[el];exact h1) (by rw[er];exact h2)⟩
 wt:=fun u t v x y N a b p q h1 h2 h3=>zFG h1 h2 h3
 neut:=⟨by decide,by decide,by decide⟩
 kind:=.inr rfl
 exits:=fun c h _=>⟨fun _=>h,fun h=>absurd h (by decide)⟩ }
theorem jw:zBI xX 1 1:={
 kw:=by decide
 next:=fun op=>by rw[aC,tg (by rintro(⟨h,_⟩|⟨h,_⟩) <;> exact absurd h (by decide))];decide
 opn:=rX
 node:=fun a l r h1 h2 h3 h4=>⟨fun _=>⟨h1,h2,h3,h4⟩,fun e=>absurd (show (1:Int)=2 from e) (by decide),fun e=>absurd (show (1:Int)=3 from e) (by decide),fun e=>absurd rfl e⟩
 make:=fun N u t v x y l r hc hl hr h1 h2=>by
  obtain⟨hb,el,er⟩:=U9 1 l r N hl hr;exact⟨orT x y,bH.or _ _ _ _ _ _ _ _ (t9 _) hc hb (by rw[el];exact h1) (by rw[er];exact h2)⟩
 wt:=fun u t v x y N a b p q h1 h2 h3=>zHO h1 h2 h3
 neut:=⟨by decide,by decide,by decide⟩
 kind:=.inl rfl
 exits:=fun c h h2=>⟨fun _=>h2 (by decide),fun _=>h⟩ }
theorem VE{len n j:Nat}{op:Int}{q0:GS}{tok:Bs}{kind:Int}{item:GS->Int × GS}(J:zBI tok kind j)
 (hitem:∀(q:GS) (i:Nat),q.s=(i,false)->i<=ts.length->ts.length+1-i<=n->cQ q.nd->UQ ts len j i op d q (item q)) (k:Nat) :
 ∀(left:Int) (q:GS) (i':Nat) (u:zG) (x:Bs × Int),q.s=(i',false)->i<i'->i'<=ts.length->ts.length+1-i'<=n->ts.length+1-i'<=k->FA ts len i bK op=FA ts len i' qF op->(∃M,q.nd=q0.nd++M)->cQ q.nd ->
  (1<=j->cA ts i'≠yE)->Gr (j+1) u x q.nd left->ts.drop i=u++ts.drop i'->Wt q0 d q u->UQ ts len (j+1) i op d q0 (mW (pp ts len) item tok kind k left q):=by
 induction k with
 | zero=>intro left q i' u x _ _ h1 _ h2;omega
 | succ k ih =>
   intro left q i' u x hq zIB hle hn hk hf hM hg hx1 hr hd hwt;rw[mW,hq];rcases cS (len:=len) hle J.kw with ⟨hc,hi,e⟩|⟨hc,e⟩
   ·rw[e]
    simp only;have hf2:FA ts len i bK op=FA ts len (i'+1) bK op:=hf.trans (uX hi hc (J.next op) (by decide) (J.opn op));have hI:=hitem (q.to (i'+1,false)) (i'+1) rfl hi (by omega) hg;generalize item (q.to (i'+1,false))=r at hI ⊢;rcases hI with ⟨h1,h2⟩|⟨h1,h2,h3,h4,⟨M,h5⟩,h6,h7,h8,v,y,h9,h10,h11⟩
    ·obtain⟨a,⟨⟨s1,s2⟩,nd,te,de⟩⟩:=r
     simp only at h1;subst h1;refine .inl ⟨?_,?_⟩
     ·rw[mV _ _ _ _ _ _ _ rfl];rfl
     ·rw[mV _ _ _ _ _ _ _ rfl,hf2];exact h2
    ·obtain⟨M0,hM⟩:=hM
     obtain⟨a,⟨⟨s1,s2⟩,nd,te,de⟩⟩:=r;simp only[GS.to]at h1 h2 h3 h4 h5 h6 h7 h8 h9 h10;subst h1;have bl:=(hr.ext M).bound;rw[<-h5]at bl;have br:=h9.bound
     have rl:Gr (j+1) u x (nd++[⟨kind,left,a,[],[],[],0⟩]) left:=by
      have:=hr.ext (M++[⟨kind,left,a,[],[],[],0⟩]);rw[<-mq,<-h5]at this;exact this
     obtain⟨z,hz⟩:=J.make nd u (TT ts i') v x y left a hc bl.2 br.2 rl (h9.ext _);refine ih _ _ s1 (u++TT ts i'::v) z rfl (by omega) h3 (by omega) (by omega) (hf2.trans h4) ⟨M0++M++[⟨kind,left,a,[],[],[],0⟩],?_⟩ ?_ h7 hz ?_ ?_
     ·show nd++[_]=_
      rw[h5,hM];simp
     ·exact cQ.add h6 (J.node _ _ _ bl.1 bl.2 br.1 br.2)
     ·rw[hd,zJ ts i' hi,h10];simp
     ·obtain⟨y1,L1,w1,w2,w3,w4,w5,w6⟩:=hwt
      obtain⟨y2,L2,v1,v2,v3,v4,v5,v6⟩:=h11;have hcls:zR (TT ts i').2=tok:=hc;refine⟨pU y1 y2,L1++L2,J.wt _ _ _ _ _ _ _ _ _ _ hc rl (h9.ext _) w1 v1,?_,?_,?_,w5.join v5 (by rw[hcls];exact J.neut.1) (by rw[hcls];exact J.neut.2),?_⟩
      ·simp only[pU];split <;> omega
      ·simp only[GS.to]at v3
       show te=q0.tests+(y1.1+y2.1);omega
      ·simp only[GS.to]at v4
       show q0.dep<=de/\d+(pU y1 y2).2<=de/\(de=q0.dep\/de=d+(pU y1 y2).2);simp only[pU];split <;> omega
      ·simp only[GS.to]at v6
       show tD (nd++[_])=_;have e9:tD [⟨kind,left,a,[],[],[],0⟩]=[]:=by rcases J.kind with rfl|rfl <;> rfl
       rw[iK,e9,ce,v6,w6,mq]
   ·rw[e]
    simp only;obtain⟨e1,e2⟩:=J.exits (cA ts i') hc hx1;exact .inr ⟨rfl,zIB,hle,hf,hM,hg,e1,e2,u,x,hr,hd,hwt⟩
theorem QR{len n:Nat}{op:Int}{fact:GS->Int->Int × GS}
 (hitem:∀(q:GS) (i:Nat),q.s=(i,false)->i<=ts.length->ts.length+1-i<=n->cQ q.nd->UQ ts len 0 i op d q (fact q d))
 (q:GS) (i:Nat) (hq:q.s=(i,false)) (hi:i<=ts.length) (hn:ts.length+1-i<=n) (hg:cQ q.nd):UQ ts len 1 i op d q (mM (pp ts len) fact q d):=by
 unfold mM;have hI:=hitem q i hq hi hn hg;generalize fact q d=r at hI ⊢;obtain⟨a,⟨⟨s1,s2⟩,nd,te,de⟩⟩:=r;rcases hI with ⟨h1,h2⟩|⟨h1,h2,h3,h4,h5,h6,h7,h8,v,y,h9,h10,h11⟩
 ·simp only at h1
  subst h1;refine .inl ⟨?_,?_⟩
  ·rw[mV _ _ _ _ _ _ _ rfl]
  ·rw[mV _ _ _ _ _ _ _ rfl];exact h2
 ·simp only at h1 h2 h3 h4 h5 h6 h7 h8 h9 h10
  subst h1;exact VE G6 hitem (pp ts len).length a ⟨(s1,false),nd,te,de⟩ s1 v y rfl h2 h3 (by omega) (by rw[eY];omega) h4 h5 h6 (fun h=>absurd h (by decide)) (h9.le (by decide)) h10 h11
theorem Fb{len n:Nat}{op:Int}{fact:GS->Int->Int × GS}
 (hitem:∀(q:GS) (i:Nat),q.s=(i,false)->i<=ts.length->ts.length+1-i<=n->cQ q.nd->UQ ts len 0 i op d q (fact q d))
 (q:GS) (i:Nat) (hq:q.s=(i,false)) (hi:i<=ts.length) (hn:ts.length+1-i<=n) (hg:cQ q.nd):UQ ts len 2 i op d q (aW (pp ts len) fact q d):=by
 unfold aW;have hI:=QR hitem q i hq hi hn hg;generalize mM (pp ts len) fact q d=r at hI ⊢;obtain⟨a,⟨⟨s1,s2⟩,nd,te,de⟩⟩:=r;rcases hI with ⟨h1,h2⟩|⟨h1,h2,h3,h4,h5,h6,h7,h8,v,y,h9,h10,h11⟩
 ·simp only at h1
  subst h1;refine .inl ⟨?_,?_⟩
  ·rw[mV _ _ _ _ _ _ _ rfl]
  ·rw[mV _ _ _ _ _ _ _ rfl];exact h2
 ·simp only at h1 h2 h3 h4 h5 h6 h7 h8 h9 h10
  subst h1;exact VE jw (fun q i=>QR hitem q i) (pp ts len).length a ⟨(s1,false),nd,te,de⟩ s1 v y rfl h2 h3 (by omega) (by rw[eY];omega) h4 h5 h6 (fun _=>h7 (by decide)) (h9.le (by decide)) h10 h11
theorem zAF{len:Nat}(zJ1:fM ts)(n:Nat):∀(op d:Int),0<=op->∀(q:GS) (i:Nat),q.s=(i,false)->i<=ts.length->ts.length+1-i<=n->cQ q.nd->UQ ts len 0 i op d q (xG (pp ts len) n q d):=by
 induction n with
 | zero=>intro op d _ q i _ h1 h2;omega
 | succ n ih =>
   intro op d zJ9 q i hq hi hn hg;rw[xG,hq];rcases cS (len:=len) hi (t:=yW) (by decide) with ⟨hc,zIB,e⟩|⟨hc,e⟩
   ·rw[e]
    simp only;have hf:FA ts len i bK op=FA ts len (i+1) bK op:=uX zIB hc rfl (by decide) (wY op);have hI:=ih op (d+1) zJ9 (q.to (i+1,false)) (i+1) rfl zIB (by omega) hg;generalize xG (pp ts len) n (q.to (i+1,false)) (d+1)=r at hI ⊢;rcases hI with ⟨h1,h2⟩|⟨h1,h2,h3,h4,⟨M,h5⟩,h6,h7,h8,v,y,h9,h10,h11⟩
    ·exact .inl ⟨h1,by rw[hf];exact h2⟩
    ·obtain⟨a,⟨⟨s1,s2⟩,nd,te,de⟩⟩:=r
     simp only[GS.to]at h1 h2 h3 h4 h5 h6 h7 h8 h9 h10;subst h1;have br:=h9.bound;have en:qZ (nd++[⟨3,a,0,[],[],[],0⟩]) (nd.length:Int).toNat=⟨3,a,0,[],[],[],0⟩:=by rw[Int.toNat_natCast];exact Ze _ _
     have el:lf (nd++[⟨3,a,0,[],[],[],0⟩]) nd.length=a:=by unfold lf;rw[en]
     have hgr:Gr 0 (TT ts i::v) (QE y) (nd++[⟨3,a,0,[],[],[],0⟩]) (nd.length:Int):=by
      refine bH.neg _ _ _ _ _ _ hc ⟨by omega,by simp only[tq,pd];omega,by rw[en],by rw[el];exact br.2⟩ ?_;rw[el];exact h9.ext _
     have hcls:zR (TT ts i).2=yW:=hc;refine .inr ⟨rfl,(by show i<s1;omega),h3,hf.trans h4,⟨M++[⟨3,a,0,[],[],[],0⟩],?_⟩,?_,fun h=>absurd h (by decide),fun h=>absurd h (by decide),TT ts i::v,QE y,hgr,?_,?_⟩
     ·show nd++[_]=_
      rw[h5];simp
     ·exact cQ.add h6 ⟨fun e=>absurd (show (3:Int)=1 from e) (by decide),fun e=>absurd (show (3:Int)=2 from e) (by decide),fun _=>br,fun _ _ e=>absurd rfl e⟩
     ·show ts.drop i=(TT ts i::v)++ts.drop s1
      rw[zJ ts i zIB,h10];rfl
     ·obtain⟨y2,L2,v1,v2,v3,v4,v5,v6⟩:=h11
      simp only[GS.to]at v3 v4 v6;refine⟨(y2.1,y2.2+1),L2,zFF hc hgr v1,by simp only;omega,v3,?_,v5.ahead (by rw[hcls];decide) (by rw[hcls];exact⟨by decide,by decide⟩),?_⟩
      ·show q.dep<=de/\d+(y2.2+1)<=de/\(de=q.dep\/de=d+(y2.2+1))
       omega
      ·show tD (nd++[_])=_
       rw[iK,v6,show tD [⟨3,a,0,[],[],[],0⟩]=[] from rfl,ce]
   rw[e];simp only;rcases cS (len:=len) hi (t:=yP) (by decide) with ⟨hc2,zIB,e2⟩|⟨hc2,e2⟩
   ·rw[e2]
    simp only;have hf:FA ts len i bK op=FA ts len (i+1) bK (op+1):=uX zIB hc2 rfl (by decide) (wX op);have hI:=Fb (fun q i=>ih (op+1) (d+1) (by omega) q i) (q.to (i+1,false)) (i+1) rfl zIB (by omega) hg;generalize aW (pp ts len) (xG (pp ts len) n) (q.to (i+1,false)) (d+1)=r at hI ⊢;rcases hI with ⟨h1,h2⟩|⟨h1,h2,h3,h4,⟨M,h5⟩,h6,h7,h8,v,y,h9,h10,h11⟩
    ·obtain⟨a,⟨⟨s1,s2⟩,nd,te,de⟩⟩:=r
     simp only at h1;subst h1;exact .inl ⟨rfl,by rw[hf];exact h2⟩
    ·obtain⟨a,⟨⟨s1,s2⟩,nd,te,de⟩⟩:=r
     simp only[GS.to]at h1 h2 h3 h4 h5 h6 h7 h8 h9 h10;subst h1;simp only[GS.to];rcases gD (len:=len) h3 (t:=xT) (by decide) with ⟨hc3,hlt3,e3⟩|⟨hc3,e3⟩
     ·rw[e3]
      have hnx:zO qF xT (op+1)=qF:=by
       rw[aC,tg (by rintro(⟨_,h⟩|⟨h,_⟩);omega;exact absurd h (by decide))];decide
      have hf3:=uX (len:=len) hlt3 hc3 hnx (by decide) (show opn xT (op+1)=op by rw[wW];omega);refine .inr ⟨rfl,(by show i<s1+1;omega),hlt3,hf.trans (h4.trans hf3),⟨M,h5⟩,h6,fun h=>absurd h (by decide),fun h=>absurd h (by decide),TT ts i::(v++[TT ts s1]),y,bH.br _ _ _ _ _ _ _ hc2 hc3 h9,?_,?_⟩
      ·show ts.drop i=(TT ts i::(v++[TT ts s1]))++ts.drop (s1+1)
       rw[zJ ts i zIB,h10,zJ ts s1 hlt3];simp
      ·obtain⟨y2,L2,v1,v2,v3,v4,v5,v6⟩:=h11
       simp only[GS.to]at v3 v4 v6;have ho:zR (TT ts i).2=yP:=hc2;have hs:zR (TT ts s1).2=xT:=hc3;refine⟨(y2.1,y2.2+1),L2,zHP hc2 hc3 h9 v1,by simp only;omega,v3,?_,(v5.behind (by rw[hs];decide) (by rw[hs];exact⟨by decide,by decide⟩)).ahead (by rw[ho];decide) (by rw[ho];exact⟨by decide,by decide⟩),v6⟩;show q.dep<=de/\d+(y2.2+1)<=de/\(de=q.dep\/de=d+(y2.2+1));omega
     ·rw[e3]
      refine .inl ⟨rfl,?_⟩;rw[hf,h4];exact gP h3 (ZQ (h8 (by decide)) (h7 (by decide)) (fun e=>absurd e hc3) (fun _=>by omega)) (.inr (by decide))
   ·rw[e2]
    simp only;have hT:=vp (len:=len) zJ1 hi op hc hc2;generalize vA (pp ts len) (i,false)=r at hT ⊢;obtain⟨z,⟨s1,s2⟩⟩:=r;rcases hT with ⟨h1,h2⟩|⟨h1,h2,h3,h4,u,h5,h6,⟨h7,h8,h9,hTT⟩,h11⟩
    ·simp only at h1;subst h1
     exact .inl ⟨rfl,h2⟩
    ·simp only at h1 h2 h3 h4 h5 h7 h8 h9;subst h1
     have en:qZ (q.nd++[z]) (q.nd.length:Int).toNat=z:=by rw[Int.toNat_natCast];exact Ze _ _
     refine .inr ⟨rfl,h2,h3,h4,⟨[z],rfl⟩,?_,fun h=>absurd h (by decide),fun h=>absurd h (by decide),u,(cZ u,0),?_,h5,?_⟩
     ·have hz:BW z q.nd.length:=⟨fun (e:z.kind=1)=>by omega,fun (e:z.kind=2)=>by omega,fun (e:z.kind=3)=>by omega,fun _ _ _=>⟨h7,h8⟩⟩
      exact cQ.add hg hz
     ·show Gr 0 u (cZ u,0) (q.nd++[z]) (q.nd.length:Int)
      refine bH.test _ _ _ _ h6 ⟨by omega,by simp only[tq,pd];omega,?_⟩;rw[en];exact⟨h7.1,h9,hTT⟩
     ·refine⟨(1,0),V3 z,zBW h6,by simp,rfl,?_,h11,?_⟩
      ·show q.dep<=(if q.dep<d then d else q.dep)/\d+0<=(if q.dep<d then d else q.dep)/\((if q.dep<d then d else q.dep)=q.dep\/(if q.dep<d then d else q.dep)=d+0)
       split <;> omega
      ·show tD (q.nd++[z])=_
       rw[iK];simp[tD]
theorem GJ{len:Nat}(zJ1:fM ts)(hi:i<=ts.length):UQ ts len 2 i 0 0 ⟨(i,false),[],0,0⟩ (vW (pp ts len) (i,false)):=by
 unfold vW ZD;exact Fb (fun q i=>zAF zJ1 (pp ts len).length 0 0 (by decide) q i) ⟨(i,false),[],0,0⟩ i rfl hi (by rw[eY];omega) aL
end Go.Proofs.YtnbpdffdnphbeaaGreatDoor
