import Derived.Test.YtnbpdffdnphbeabGreatDoorPut
namespace Go.Proofs.YtnbpdffdnphbeabGreatDoor
variable{cl:Bs}{x:Bs × Int}{d a:Int}{L:List (Nat × Bs)}{N:List zN}{n k i:Nat}{t:Nat × Bs}{u ts:zT}(s:Bs)(P:List PT)(w:Bs)
def dE(a b:Int × Int):Int × Int:=(a.1+b.1,if a.2<b.2 then b.2 else a.2)
def jR:Nat->zT->Int × Int
 | 0,_=>(0,0)
 | n+1,ts =>
   if 0<=uC ts jU then dE (jR n (ts.take (uC ts jU).toNat)) (jR n (ts.drop ((uC ts jU).toNat+1)))
   else if 0<=uC ts xT then dE (jR n (ts.take (uC ts xT).toNat)) (jR n (ts.drop ((uC ts xT).toNat+1)))
   else if zZ (ts.getD 0 (0,[])).2=yX then ((jR n (ts.drop 1)).1,(jR n (ts.drop 1)).2+1)
   else if zZ (ts.getD 0 (0,[])).2=yO then ((jR n ((ts.drop 1).take (ts.length-2))).1,(jR n ((ts.drop 1).take (ts.length-2))).2+1)
   else (1,0)
def YN(r:zT)(nx:Bs):Bs:=match r with | []=>nx|s::_=>zZ s.2
def qp(p:Bs):zT->Bs
 | []=>p
 | t::r=>qp (zZ t.2) r
def CR(p:Bs):zT->Bs
 | []=>p
 | t::r=>CR t.2 r
def nV(p nx:Bs):Nat:=if p=[104,97,115] then 1 else if p∈jH\/nx∈jH then 2 else 3
def kP:Bs->zT->Bs->List (Nat × Bs)
 | _,[],_=>[]
 | p,t::r,nx=>(if zZ t.2=xP then [(nV p (YN r nx),t.2)] else [])++kP (zZ t.2) r nx
theorem Fy(u v:zT)(nx:Bs):YN (u++v) nx=YN u (YN v nx):=by cases u <;> rfl
theorem Qx(u v:zT)(nx:Bs):∀p,kP p (u++v) nx=kP p u (YN v nx)++kP (qp p u) v nx:=by
 induction u with
 | nil=>intro p;rfl
 | cons t r ih=>intro p;rw[my,kP,ih,kP,qp,Fy,pj]
def neut(c:Bs):Prop:=c≠[104,97,115]/\c ∉ jH
def nB(u:zT)(L:List (Nat × Bs)):Prop:=∀p nx,neut p->nx ∉ jH->kP p u nx=L
theorem nB.join{v:zT}{L':List (Nat × Bs)}(hu:nB u L)(hv:nB v L')(ht:zZ t.2≠xP)(hn:neut (zZ t.2)):nB (u++t::v) (L++L'):=by
 intro p nx hp hnx;rw[Qx,show YN (t::v) nx=zZ t.2 from rfl,hu p _ hp hn.2,kP,tj ht,bj,hv _ _ hn hnx]
theorem nB.ahead(hu:nB u L)(ht:zZ t.2≠xP)(hn:neut (zZ t.2)):nB (t::u) L:=by
 intro p nx _ hnx;rw[kP,tj ht,bj,hu _ _ hn hnx]
theorem nB.behind(hu:nB u L)(ht:zZ t.2≠xP)(hn:neut (zZ t.2)):nB (u++[t]) L:=by
 intro p nx hp _;rw[Qx,show YN [t] nx=zZ t.2 from rfl,hu p _ hp hn.2,kP,tj ht,kP];simp
def vz(x:zN):List (Nat × Bs) :=
 if x.kind=5 then [(1,x.name)] else if x.kind=6 then [(3,x.name)] else if x.kind=7 then (2,x.name)::(if x.other=[] then [] else [(2,x.other)]) else []
def mW(N:List zN):List (Nat × Bs):=N.flatMap vz
theorem aC(N M:List zN):mW (N++M)=mW N++mW M:=by simp[mW]
def gY:zT->List (Nat × Bs)
 | []=>[]
 | t::r=>(if zZ t.2=xP then [(0,t.2)] else [])++gY r
def dD:zT->Nat
 | []=>0
 | t::r=>(if zZ t.2=[43]\/zZ t.2=[45] then 1 else 0)+dD r
def rY:Bs->zT->Bool
 | _,[]=>false
 | p,t::r=>(decide (zZ t.2=[42])&&decide (9<qA 0 p)) || rY t.2 r
theorem F0(u v:zT):gY (u++v)=gY u++gY v:=by
 induction u with
 | nil=>rfl
 | cons t r ih=>rw[my,gY,ih,gY,pj]
theorem Gs(u v:zT):dD (u++v)=dD u+dD v:=by
 induction u with
 | nil=>simp[dD]
 | cons t r ih=>rw[my,dD,ih,dD];omega
theorem zAQ(u v:zT):∀p,rY p (u++v)=(rY p u || rY (CR p u) v):=by
 induction u with
 | nil=>intro p;simp[rY,CR]
 | cons t r ih=>intro p;rw[my,rY,ih,rY,CR,Bool.or_assoc]
def KF(x:yQ):List (Nat × Bs):=if x.name=[] then [] else [(0,x.name)]
def qT(x:yQ):Bool:=x.starred&&decide (9<x.num)
structure XW(v:zT)(S:List yQ):Prop where
 needs:gY v=S.flatMap KF
 count:dD v+1=S.length
 big:∀p,rY p v=S.any qT
 star:∀k,k<v.length->zZ (v.getD k (0,[])).2=[42]->0<k/\zZ (v.getD (k-1) (0,[])).2=xR
theorem XW.join{v:zT}{S S':List yQ}(hu:XW u S)(hv:XW v S')(ht:zZ t.2=[43]\/zZ t.2=[45]):XW (u++t::v) (S++S'):=by
 have h1:zZ t.2≠xP:=by rcases ht with h|h <;> rw[h] <;> decide
 have h2:zZ t.2≠[42]:=by rcases ht with h|h <;> rw[h] <;> decide
 refine⟨?_,?_,?_,?_⟩
 ·rw[F0,gY,tj h1,hu.needs,hv.needs,lk,bj]
 ·rw[Gs,dD,tr ht,tq,<-hu.count,<-hv.count];omega
 ·intro p;rw[zAQ,rY,hu.big,hv.big,tu h2,List.any_append];simp
 ·intro k hk h
  rcases Nat.lt_trichotomy k u.length with h3|h3|h3
  ·have e:∀i,i<u.length->(u++t::v).getD i (0,[])=u.getD i (0,[]):=fun i hi=>by rw[List.getD,List.getD,po hi]
   rw[e k h3]at h;obtain⟨h4,h5⟩:=hu.star k h3 h;exact⟨h4,by rw[e (k-1) (by omega)];exact h5⟩
  ·subst h3
   rw[List.getD,mq (tg _)]at h;simp only[Nat.sub_self,dl,Option.getD_some]at h;exact absurd h h2
  ·have e:∀i,u.length<i->(u++t::v).getD i (0,[])=v.getD (i-u.length-1) (0,[]):=fun i hi=>by
    rw[List.getD,List.getD,mq (by omega)];obtain⟨m,hm⟩:∃m,i-u.length=m+1:=⟨i-u.length-1,by omega⟩;rw[hm];rfl
   rw[e k h3]at h;obtain⟨h4,h5⟩:=hv.star (k-u.length-1) (by simp only[tq,tz]at hk;omega) h;exact⟨by omega,by rw[e (k-1) (by omega),show k-1-u.length-1=k-u.length-1-1 by omega];exact h5⟩
def kO(st:Bs):List Bs:=(List.range 43).filterMap fun i=>if jg.getD (i*3) []=st then some (jg.getD (i*3+1) []) else none
theorem J9(st cl:Bs)(n:Nat):∀i,i+n<=43->cl ∉ kO st->YW st cl n i=[]:=by
 induction n with
 | zero=>intro i _ _;rfl
 | succ n ih =>
   intro i hi h;rw[YW,tj,ih (i+1) (by omega) h];rintro⟨h1,h2⟩;refine h (List.mem_filterMap.2 ⟨i,md.2 (by omega),?_⟩);rw[tr h1,h2]
theorem Bh{st:Bs}{op:Int}(h1:st≠mU)(h2:st≠pP):uB st cl op=YW st cl 43 0:=by
 unfold uB;simp only[h1,false_and,if_false,h2]
theorem pQ{st:Bs}{op:Int}(h1:st≠mU)(h2:st≠pP)(h:cl ∉ kO st):uB st cl op=[]:=by
 rw[Bh h1 h2];exact J9 st cl 43 0 (by omega) h
theorem Bg:kO pP=[jU,xT,vJ,uX]:=by decide
theorem KO:kO mU=jH:=by decide
theorem rA(cl:Bs)(op:Int):uB pP cl op=if cl=vJ/\op=0\/cl=uX/\0<op then [] else YW pP cl 43 0:=by
 unfold uB;simp only[ite_self,true_and]
theorem Za{op:Int}(h1:cl≠jU)(h2:cl≠xT)(h3:cl=vJ->op=0)(h4:cl=uX->0<op):uB pP cl op=[]:=by
 rw[rA];split
 ·rfl
 ·rename_i h
  refine J9 _ _ 43 0 (by omega) ?_;rw[Bg];simp only[pf,lu,dc,h1,h2,false_or];rintro(e|e)
  ·exact h (.inl ⟨e,h3 e⟩)
  ·exact h (.inr ⟨e,h4 e⟩)
theorem Bl{op:Int}(h:cl ∉ jH):uB mU cl op=uB pP cl op:=by
 by_cases hc:cl=jU\/cl=xT\/cl=vJ\/cl=uX
 ·unfold uB
  simp only[hc,and_self,if_true,ite_self]
 ·have e1:uB mU cl op=YW mU cl 43 0:=by
   unfold uB;simp only[hc,and_false,if_false];rw[tj (by intro h;exact absurd h.1 (by decide))]
  rw[e1,J9 _ _ 43 0 (by omega) (by rw[KO];exact h)];rw[Za (fun e=>hc (.inl e)) (fun e=>hc (.inr (.inl e))) (fun e=>absurd (.inr (.inr (.inl e))) hc) (fun e=>absurd (.inr (.inr (.inr e))) hc)]
def zE4:List Bs:=CU++KU
theorem wO:∀t∈zE4,zZ t=t/\yA t=4/\t≠VN/\t≠xP/\t≠xR:=by decide
theorem rQ:(yA s=4/\s∈zE4/\zZ s=s)\/(yA s=2/\zZ s=xP)\/(yA s=3/\zZ s=xR)\/(yA s=1/\zZ s=VN):=by
 unfold yA zZ;rw[Cd,VR];split
 ·split
  ·exact .inr (.inr (.inr ⟨rfl,rfl⟩))
  ·split
   ·rename_i h
    refine .inl ⟨rfl,?_,rfl⟩;unfold uJ at h;exact ph.2 (.inl (by simpa using h))
   ·exact .inr (.inl ⟨rfl,rfl⟩)
 ·split
  ·split
   ·exact .inr (.inr (.inr ⟨rfl,rfl⟩))
   ·exact .inr (.inr (.inl ⟨rfl,rfl⟩))
  ·split
   ·rename_i h
    refine .inl ⟨rfl,?_,rfl⟩;unfold xS at h;exact ph.2 (.inr (by simpa using h))
   ·exact .inr (.inr (.inr ⟨rfl,rfl⟩))
theorem zAI{s t:Bs}(ht:t∈zE4):(yA s=4/\s=t) ↔ zZ s=t:=by
 obtain⟨a,b,c,d,e⟩:=wO t ht;constructor
 ·rintro⟨_,rfl⟩;exact a
 ·intro h
  rcases rQ s with ⟨h1,_,h2⟩|⟨_,h2⟩|⟨_,h2⟩|⟨_,h2⟩
  ·exact⟨h1,h2.symm.trans h⟩
  ·exact absurd (h.symm.trans h2) d
  ·exact absurd (h.symm.trans h2) e
  ·exact absurd (h.symm.trans h2) c
theorem zAH:yA s=2 ↔ zZ s=xP:=by
 rcases rQ s with ⟨h1,h3,h2⟩|⟨h1,h2⟩|⟨h1,h2⟩|⟨h1,h2⟩
 ·obtain⟨a,b,c,d,e⟩:=wO s h3
  exact⟨fun h=>absurd (h1.symm.trans h) (by decide),fun h=>absurd (h2.symm.trans h) d⟩
 ·exact⟨fun _=>h2,fun _=>h1⟩
 ·exact⟨fun h=>absurd (h1.symm.trans h) (by decide),fun h=>absurd (h2.symm.trans h) (by decide)⟩
 ·exact⟨fun h=>absurd (h1.symm.trans h) (by decide),fun h=>absurd (h2.symm.trans h) (by decide)⟩
theorem aO:yA s=3 ↔ zZ s=xR:=by
 rcases rQ s with ⟨h1,h3,h2⟩|⟨h1,h2⟩|⟨h1,h2⟩|⟨h1,h2⟩
 ·obtain⟨a,b,c,d,e⟩:=wO s h3
  exact⟨fun h=>absurd (h1.symm.trans h) (by decide),fun h=>absurd (h2.symm.trans h) e⟩
 ·exact⟨fun h=>absurd (h1.symm.trans h) (by decide),fun h=>absurd (h2.symm.trans h) (by decide)⟩
 ·exact⟨fun _=>h2,fun _=>h1⟩
 ·exact⟨fun h=>absurd (h1.symm.trans h) (by decide),fun h=>absurd (h2.symm.trans h) (by decide)⟩
def pp(ts:zT)(len:Nat):List PT:=ts.map (fun t=>⟨yA t.2,t.2,qS t.2,t.1⟩)++[⟨0,[],0,len⟩]
theorem sW(ts:zT)(len:Nat):(pp ts len).length=ts.length+1:=by simp[pp]
def tA(ts:zT)(i:Nat):Bs:=(ts.getD i (0,[])).2
def cA(ts:zT)(i:Nat):Bs:=zZ (tA ts i)
theorem JU(h:ts.length<=i):cA ts i=VN:=by
 unfold cA tA;rw[List.getD,List.getElem?_eq_none h];decide
theorem zAL(h:cA ts i≠VN):i<ts.length:=by
 rcases py i ts.length with h1|h1
 ·exact h1
 ·exact absurd (JU h1) h
theorem lP{t:Bs}(ht:t∈zE4)(h:cA ts i=t):i<ts.length/\tA ts i=t :=
 ⟨zAL (by rw[h];exact(wO t ht).2.2.1),((zAI ht).2 h).2⟩
theorem gH{len:Nat}(h:i<ts.length):yT (pp ts len) i=⟨yA (tA ts i),tA ts i,qS (tA ts i),(ts.getD i (0,[])).1⟩:=by
 unfold yT pp tA;rw[List.getD,po (by simpa using h)];simp[List.getD,h]
theorem rP{len:Nat}:yT (pp ts len) ts.length=⟨0,[],0,len⟩:=by
 unfold yT pp;simp[List.getD]
theorem ZW{len:Nat}(h:i<=ts.length){t:Bs}(ht:t∈zE4):jS (pp ts len) t i false=decide (cA ts i=t):=by
 unfold jS;rcases py i ts.length with h1|h1
 ·rw[gH h1]
  simp only[dg,ld,<-Bool.decide_and];exact decide_eq_decide.2 (zAI ht)
 ·obtain rfl:i=ts.length:=by omega
  rw[rP,JU (tg _)];have h2:=(wO t ht).2.2.1;have h3:¬VN=t:=fun e=>h2 e.symm;rw[tu h3];rfl
theorem Kv{len:Nat}(h:i<=ts.length):uQ (pp ts len) 2 i false=decide (cA ts i=xP):=by
 unfold uQ;rcases py i ts.length with h1|h1
 ·rw[gH h1]
  simp only[dg,ld];exact decide_eq_decide.2 (zAH _)
 ·obtain rfl:i=ts.length:=by omega
  rw[rP,JU (tg _)];rfl
theorem Y1{len:Nat}(h:i<=ts.length):uQ (pp ts len) 3 i false=decide (cA ts i=xR):=by
 unfold uQ;rcases py i ts.length with h1|h1
 ·rw[gH h1]
  simp only[dg,ld];exact decide_eq_decide.2 (aO _)
 ·obtain rfl:i=ts.length:=by omega
  rw[rP,JU (tg _)];rfl
section steps
variable {ts:zT} {len i:Nat}
theorem lW(h:i<=ts.length){t:Bs}(ht:t∈zE4):(cA ts i=t/\i<ts.length/\zD (pp ts len) t (i,false)=(true,(i+1,false)))\/(cA ts i≠t/\zD (pp ts len) t (i,false)=(false,(i,false))):=by
 by_cases hc:cA ts i=t
 ·refine .inl ⟨hc,(lP ht hc).1,?_⟩
  simp only[zD,ZW h ht,hc,decide_true,ZN]
 ·refine .inr ⟨hc,?_⟩
  simp only[zD,ZW h ht,hc,dq,ZN]
theorem dJ(h:i<=ts.length){t:Bs}(ht:t∈zE4):(cA ts i=t/\i<ts.length/\zP (pp ts len) t (i,false)=(i+1,false))\/(cA ts i≠t/\zP (pp ts len) t (i,false)=(i,true)):=by
 by_cases hc:cA ts i=t
 ·refine .inl ⟨hc,(lP ht hc).1,?_⟩
  simp only[zP,ZW h ht,hc,decide_true,ZN,Bool.not_true]
 ·refine .inr ⟨hc,?_⟩
  simp only[zP,ZW h ht,hc,dq,ZN,dg]
theorem cC(h:i<=ts.length):(cA ts i=xP/\i<ts.length/\zG (pp ts len) (i,false)=(tA ts i,(i+1,false)))\/(cA ts i≠xP/\zG (pp ts len) (i,false)=([],(i,true))):=by
 by_cases hc:cA ts i=xP
 ·have hi:i<ts.length:=zAL (by rw[hc];decide)
  refine .inl ⟨hc,hi,?_⟩;simp only[zG,Kv h,hc,decide_true,ZN,tk,gH hi,Bool.not_true]
 ·refine .inr ⟨hc,?_⟩
  simp only[zG,Kv h,hc,dq,ZN,tk,pz,dg]
theorem vk{s:Bs}(h:zZ s=xR):qS s=qA 0 s:=by unfold qS;rw[tr ((aO s).2 h)]
theorem eK(h:i<=ts.length):(cA ts i=xR/\i<ts.length/\yC (pp ts len) (i,false)=(qA 0 (tA ts i),(i+1,false)))\/(cA ts i≠xR/\yC (pp ts len) (i,false)=(0,(i,true))):=by
 by_cases hc:cA ts i=xR
 ·have hi:i<ts.length:=zAL (by rw[hc];decide)
  refine .inl ⟨hc,hi,?_⟩;simp only[yC,Y1 h,hc,decide_true,ZN,tk,gH hi,Bool.not_true,vk hc]
 ·refine .inr ⟨hc,?_⟩
  simp only[yC,Y1 h,hc,dq,ZN,tk,pz,dg]
theorem Yf(h:i<=ts.length)(b:Bool):kR (pp ts len) (i,b)=decide (cA ts i=xR):=by
 rw[<-Y1 (len:=len) h];simp only[kR,uQ,dg,ld];rfl
theorem Ca:∀t∈jH,t∈zE4:=by decide
theorem zI1(h:i<=ts.length):(cA ts i∈jH/\i<ts.length/\tA ts i=cA ts i/\xY (pp ts len) (i,false)=(cA ts i,(i+1,false)))\/(cA ts i ∉ jH/\xY (pp ts len) (i,false)=([],(i,false))):=by
 by_cases hc:cA ts i∈jH
 ·obtain⟨h1,h2⟩:=lP (Ca _ hc) rfl
  refine .inl ⟨hc,h1,h2,?_⟩;unfold xY;have e:(yT (pp ts len) i).s=cA ts i:=by rw[gH h1];exact h2
  simp only[e];rcases lW (len:=len) h (Ca _ hc) with ⟨_,_,h3⟩|⟨h3,_⟩
  ·simp only[List.contains_iff_mem.2 hc,h3]
  ·exact absurd rfl h3
 ·refine .inr ⟨hc,?_⟩
  unfold xY
  have e:jH.contains (yT (pp ts len) i).s=false:=by
   rw[Bool.eq_false_iff];intro h1;have h2:=List.contains_iff_mem.1 h1;rcases py i ts.length with h3|h3
   ·rw[gH h3]at h2
    have h4:tA ts i∈jH:=h2;exact hc (by unfold cA;rw[(wO _ (Ca _ h4)).1];exact h4)
   ·obtain rfl:i=ts.length:=by omega
    rw[rP]at h2;exact absurd (show ([]:Bs)∈jH from h2) (by decide)
  simp only[e]
theorem U1(t:Bs)(i:Nat):zD P t (i,true)=(false,(i,true)):=rfl
theorem nJ(t:Bs)(i:Nat):zP P t (i,true)=(i,true):=rfl
theorem Bm(i:Nat):zG P (i,true)=([],(i,true)):=rfl
theorem YL(i:Nat):yC P (i,true)=(0,(i,true)):=rfl
end steps
def FA(ts:zT)(len:Nat)(i:Nat)(st:Bs)(op:Int):Int:=cF len (ts.drop i) st op
theorem uG{len:Nat}{st st':Bs}{op op':Int}(h:i<ts.length)(hc:cA ts i=cl)(h1:uB st cl op=st')(h2:st'≠[])(h3:opn cl op=op'):FA ts len i st op=FA ts len (i+1) st' op':=by
 unfold FA;subst hc h1 h3;rw[zL ts i h,cF];exact tj h2
theorem dO{len:Nat}{st:Bs}{op:Int}(h0:i<=ts.length)(h1:uB st (cA ts i) op=[])(h2:i<ts.length\/st≠tO):FA ts len i st op=((yT (pp ts len) i).p:Int):=by
 unfold FA;rcases py i ts.length with h|h
 ·rw[zL ts i h,cF,gH h]
  show (if uB st (cA ts i) op=[] then _ else _)=_;rw[tr h1]
 ·obtain rfl:i=ts.length:=by omega
  rw[List.drop_length,cF,tj (by rcases h2 with h2|h2;omega;exact h2),rP]
theorem zBI{len:Nat}{op:Int}(h:cA ts i ∉ jH):FA ts len i mU op=FA ts len i pP op:=by
 unfold FA;rcases py i ts.length with h1|h1
 ·rw[zL ts i h1,cF,cF]
  have e:uB mU (zZ (ts.getD i (0,[])).2) op=uB pP (zZ (ts.getD i (0,[])).2) op:=Bl h;rw[e]
 ·rw[pe h1,cF,cF];rfl
abbrev pF(c:Bs):Prop:=c≠jU/\c≠xT/\c≠vJ/\c≠yO/\c≠uX/\c≠yX
def Uh:zT->Int->Int
 | [],op=>op
 | t::r,op=>Uh r (opn (zZ t.2) op)
theorem Jx(u v:zT):∀op,Uh (u++v) op=Uh v (Uh u op):=by
 induction u with
 | nil=>intro op;rfl
 | cons t r ih=>intro op;exact ih _
theorem pA(u v:zT):∀i op at',jL w (u++v) i op at'=jL w v (i+u.length) (Uh u op) (jL w u i op at'):=by
 induction u with
 | nil=>intro i op a;rfl
 | cons t r ih=>intro i op a;rw[my,jL,ih,jL,Uh,tz];congr 1;omega
theorem Fr{c:Bs}(h:pF c)(op:Int):opn c op=op:=by unfold opn;rw[tj h.2.2.2.1,tj h.2.2.1]
theorem zCE(u:zT)(h:∀t∈u,pF (zZ t.2)):∀op,Uh u op=op:=by
 induction u with
 | nil=>intro op;rfl
 | cons t r ih=>intro op;rw[Uh,Fr (h t (bm ..)),ih (fun x hx=>h x (pt _ hx))]
theorem bW(hw:w=jU\/w=xT)(u:zT)(h:∀t∈u,pF (zZ t.2)):∀i op at',jL w u i op at'=at':=by
 induction u with
 | nil=>intro i op a;rfl
 | cons t r ih =>
   intro i op a;have h1:=h t (bm ..);rw[jL,tj,ih (fun x hx=>h x (pt _ hx))];rintro⟨_,h2⟩;rcases hw with rfl|rfl
   ·exact h1.1 h2
   ·exact h1.2.1 h2
theorem eI(op:Int):opn yO op=op+1:=tr rfl
theorem eH(op:Int):opn vJ op=op-1:=by unfold opn;rw[tj (by decide),tr rfl]
theorem eJ(op:Int):opn yX op=op:=by unfold opn;rw[tj (by decide),tj (by decide)]
theorem YI(op:Int):opn jU op=op:=by unfold opn;rw[tj (by decide),tj (by decide)]
theorem fW(op:Int):opn xT op=op:=by unfold opn;rw[tj (by decide),tj (by decide)]
theorem zCC(h:uC ts jU=k):tR (n+1) ts=((tR n (ts.take k)).1++[32,111,114,32]++(tR n (ts.drop (k+1))).1,2)/\pC (n+1) ts=(pC n (ts.take k)&&pC n (ts.drop (k+1))):=by
 rw[tR,pC,h,tr (by omega),tr (by omega)];exact⟨rfl,rfl⟩
theorem zp(h0:uC ts jU = -1)(h:uC ts xT=k):tR (n+1) ts=((if (tR n (ts.take k)).2=2 then Uj (tR n (ts.take k)).1 else (tR n (ts.take k)).1)++[32,97,110,100,32]++(if (tR n (ts.drop (k+1))).2=2 then Uj (tR n (ts.drop (k+1))).1 else (tR n (ts.drop (k+1))).1),1)/\pC (n+1) ts=(pC n (ts.take k)&&pC n (ts.drop (k+1))):=by
 constructor
 ·rw[tR,h0,h,tj (by omega),tr (Int.natCast_nonneg k)];rfl
 ·rw[pC,h0,h,tj (by omega),tr (Int.natCast_nonneg k)];rfl
theorem pZ(r:Bs)(st:cR):yN (s++[32]++r) st=yN r (yN s st):=by
 obtain⟨o,il⟩:=st;cases il <;> simp[yN,zJ2]
def kC:zT->cR->cR
 | [],st=>st
 | t::r,st=>kC r (yN t.2 st)
theorem sV(u v:zT):∀st,kC (u++v) st=kC v (kC u st):=by
 induction u with
 | nil=>intro st;rfl
 | cons t r ih=>intro st;exact ih _
theorem KD(r:zT):∀(s:Bs) (i:Nat) (st:cR),yN (Vw s (i+1) r) st=kC r (yN s st):=by
 induction r with
 | nil=>intro s i st;rfl
 | cons t r ih=>intro s i st;rw[Vw,tr (by omega),ih,pZ,kC]
theorem fU(h:u≠[])(st:cR):kC u st=yN (bD u) st:=by
 cases u with
 | nil=>exact absurd rfl h
 | cons t r=>rw[bD,Vw,tj (by omega),bj,KD,kC]
theorem Yq(st:cR):yN (Uj s) st=yN vJ (yN s (yN yO st)):=by
 rw[<-pZ,<-pZ];simp[Uj,vJ,yO]
theorem eO{M:List zN}{a:Nat}(h:a<N.length):qP (N++M) a=qP N a:=by
 unfold qP;rw[List.getD,po h];rfl
abbrev lf(N:List zN)(a:Int):Int:=(qP N a.toNat).left
abbrev rg(N:List zN)(a:Int):Int:=(qP N a.toNat).right
def zFU(x:zN)(u:zT):Prop :=
 (x.kind=4/\∃t,u=[t]/\zZ t.2=[97,108,119,97,121,115]) \/
 (x.kind=5/\∃t s,u=[t,s]/\zZ t.2=[104,97,115]/\zZ s.2=xP/\x.name=s.2) \/
 (x.kind=6/\∃t,u=[t]/\zZ t.2=xP/\x.name=t.2) \/
 (x.kind=7/\∃t m s,u=[t,m,s]/\zZ t.2=xP/\x.name=t.2/\m.2∈jH/\x.mark=m.2/\((zZ s.2=xR/\x.other=[]/\x.num=qA 0 s.2)\/(zZ s.2=xP/\x.other=s.2/\s.2≠[])))
def zFV(N:List zN)(a:Int)(u:zT):Prop:=0<=a/\a<N.length/\(4<=(qP N a.toNat).kind)/\(∀st,Kr (qP N a.toNat) st=kC u st)/\zFU (qP N a.toNat) u
def zJM(N:List zN)(a:Int):Prop:=0<=a/\a<N.length/\(qP N a.toNat).kind=3/\lf N a<a
def zBL(kd:Int)(N:List zN)(a:Int):Prop:=0<=a/\a<N.length/\(qP N a.toNat).kind=kd/\lf N a<a/\rg N a<a
def Jf(u:zT):Prop:=u≠[]/\∀t∈u,pF (zZ t.2)
def Bi(x:Bs × Int):Bs × Int:=([110,111,116,32]++(if 0<x.2 then Uj x.1 else x.1),0)
def zAW(x y:Bs × Int):Bs × Int:=((if x.2=2 then Uj x.1 else x.1)++[32,97,110,100,32]++(if y.2=2 then Uj y.1 else y.1),1)
def orT(x y:Bs × Int):Bs × Int:=(x.1++[32,111,114,32]++y.1,2)
structure Cl(R:Nat->zT->Bs × Int->List zN->Int->Prop):Prop where
 test:∀k u N a,Jf u->zFV N a u->R k u (bD u,0) N a
 neg:∀k t u x N a,zZ t.2=yX->zJM N a->R 0 u x N (lf N a)->R k (t::u) (Bi x) N a
 br:∀k o u c x N a,zZ o.2=yO->zZ c.2=vJ->R 2 u x N a->R k (o::(u++[c])) x N a
 and:∀k u t v x y N a,1<=k->zZ t.2=xT->zBL 2 N a->R 1 u x N (lf N a)->R 0 v y N (rg N a)->R k (u++t::v) (zAW x y) N a
 or:∀k u t v x y N a,2<=k->zZ t.2=jU->zBL 1 N a->R 2 u x N (lf N a)->R 1 v y N (rg N a)->R k (u++t::v) (orT x y) N a
def Gr(k:Nat)(u:zT)(x:Bs × Int)(N:List zN)(a:Int):Prop:=∀R,Cl R->R k u x N a
theorem cQ:Cl Gr:={
 test:=fun k u N a h1 h2 _ c=>c.test k u N a h1 h2
 neg:=fun k t u x N a h1 h2 h _ c=>c.neg k t u x N a h1 h2 (h _ c)
 br:=fun k o u e x N a h1 h2 h _ c=>c.br k o u e x N a h1 h2 (h _ c)
 and:=fun k u t v x y N a h1 h2 h3 h h' _ c=>c.and k u t v x y N a h1 h2 h3 (h _ c) (h' _ c)
 or:=fun k u t v x y N a h1 h2 h3 h h' _ c=>c.or k u t v x y N a h1 h2 h3 (h _ c) (h' _ c) }
theorem Gr.ind{R:Nat->zT->Bs × Int->List zN->Int->Prop}
 (test:∀k u N a,Jf u->zFV N a u->R k u (bD u,0) N a)
 (neg:∀k t u x N a,zZ t.2=yX->zJM N a->Gr 0 u x N (lf N a)->R 0 u x N (lf N a)->R k (t::u) (Bi x) N a)
 (br:∀k o u c x N a,zZ o.2=yO->zZ c.2=vJ->Gr 2 u x N a->R 2 u x N a->R k (o::(u++[c])) x N a)
 (and:∀k u t v x y N a,1<=k->zZ t.2=xT->zBL 2 N a->Gr 1 u x N (lf N a)->Gr 0 v y N (rg N a)->R 1 u x N (lf N a)->R 0 v y N (rg N a)->R k (u++t::v) (zAW x y) N a)
 (or:∀k u t v x y N a,2<=k->zZ t.2=jU->zBL 1 N a->Gr 2 u x N (lf N a)->Gr 1 v y N (rg N a)->R 2 u x N (lf N a)->R 1 v y N (rg N a)->R k (u++t::v) (orT x y) N a) (h:Gr k u x N a):R k u x N a :=
 (h (fun k u x N a=>Gr k u x N a/\R k u x N a) {
  test:=fun k u N a h1 h2=>⟨cQ.test k u N a h1 h2,test k u N a h1 h2⟩
  neg:=fun k t u x N a h1 h2 h=>⟨cQ.neg k t u x N a h1 h2 h.1,neg k t u x N a h1 h2 h.1 h.2⟩
  br:=fun k o u c x N a h1 h2 h=>⟨cQ.br k o u c x N a h1 h2 h.1,br k o u c x N a h1 h2 h.1 h.2⟩
  and:=fun k u t v x y N a h1 h2 h3 h h'=>⟨cQ.and k u t v x y N a h1 h2 h3 h.1 h'.1,and k u t v x y N a h1 h2 h3 h.1 h'.1 h.2 h'.2⟩
  or:=fun k u t v x y N a h1 h2 h3 h h'=>⟨cQ.or k u t v x y N a h1 h2 h3 h.1 h'.1,or k u t v x y N a h1 h2 h3 h.1 h'.1 h.2 h'.2⟩ }).2
section gr
variable {k:Nat} {u:zT} {x:Bs × Int} {N:List zN} {a:Int}
theorem Gr.le(h:Gr k u x N a){k':Nat}(hk:k<=k'):Gr k' u x N a:=by
 refine Gr.ind (R:=fun k u x N a=>∀k',k<=k'->Gr k' u x N a) ?_ ?_ ?_ ?_ ?_ h k' hk
 ·intro k u N a h1 h2 k' _;exact cQ.test _ _ _ _ h1 h2
 ·intro k t u x N a h1 h2 h3 _ k' _;exact cQ.neg _ _ _ _ _ _ h1 h2 h3
 ·intro k o u c x N a h1 h2 h3 _ k' _;exact cQ.br _ _ _ _ _ _ _ h1 h2 h3
 ·intro k u t v x y N a h1 h2 h3 h4 h5 _ _ k' hk;exact cQ.and _ _ _ _ _ _ _ _ (p8 h1 hk) h2 h3 h4 h5
 ·intro k u t v x y N a h1 h2 h3 h4 h5 _ _ k' hk;exact cQ.or _ _ _ _ _ _ _ _ (p8 h1 hk) h2 h3 h4 h5
theorem Gr.op(h:Gr k u x N a)(op:Int):Uh u op=op:=by
 refine Gr.ind (R:=fun _ u _ _ _=>∀op,Uh u op=op) ?_ ?_ ?_ ?_ ?_ h op
 ·intro k u N a h1 _ op;exact zCE u h1.2 op
 ·intro k t u x N a h1 _ _ ih op;rw[Uh,h1,eJ,ih]
 ·intro k o u c x N a h1 h2 _ ih op;rw[Uh,h1,eI,Jx,ih,Uh,h2,eH,Uh];omega
 ·intro k u t v x y N a _ h2 _ _ _ ihu ihv op;rw[Jx,ihu,Uh,h2,fW,ihv]
 ·intro k u t v x y N a _ h2 _ _ _ ihu ihv op;rw[Jx,ihu,Uh,h2,YI,ihv]
theorem Gr.inner(h:Gr k u x N a)(w:Bs)(hw:w=jU\/w=xT)(i:Nat)(op at':Int)(ho:0<op):jL w u i op at'=at':=by
 refine Gr.ind (R:=fun _ u _ _ _=>∀(i:Nat) (op at':Int),0<op->jL w u i op at'=at') ?_ ?_ ?_ ?_ ?_ h i op at' ho
 ·intro k u N a h1 _ i op at' _;exact bW w hw u h1.2 i op at'
 ·intro k t u x N a h1 _ _ ih i op at' ho
  rw[jL,h1,eJ,tj (by intro e;omega),ih _ _ _ ho]
 ·intro k o u c x N a h1 h2 h3 ih i op at' ho
  rw[jL,h1,eI,tj (by intro e;omega),pA,ih _ _ _ (by omega),h3.op,jL,h2,eH,tj (by intro e;omega),jL]
 ·intro k u t v x y N a _ h2 _ h4 _ ihu ihv i op at' ho
  rw[pA,ihu _ _ _ ho,h4.op,jL,h2,fW,tj (by intro e;omega),ihv _ _ _ ho]
 ·intro k u t v x y N a _ h2 _ h4 _ ihu ihv i op at' ho
  rw[pA,ihu _ _ _ ho,h4.op,jL,h2,YI,tj (by intro e;omega),ihv _ _ _ ho]
theorem Zf(hw:w=jU\/w=xT){o c:Nat × Bs}(h1:zZ o.2=yO)(h2:zZ c.2=vJ)(h3:Gr k u x N a)(i:Nat)(at':Int):jL w (o::(u++[c])) i 0 at'=at':=by
 rw[jL,h1,eI,tj (by intro e;omega),pA,h3.inner w hw _ _ _ (by omega),h3.op,jL,h2,eH,tj,jL];rintro⟨_,e⟩;rcases hw with rfl|rfl
 ·exact absurd e (by decide)
 ·exact absurd e (by decide)
theorem Gr.out0(h:Gr 0 u x N a)(w:Bs)(hw:w=jU\/w=xT)(i:Nat)(at':Int):jL w u i 0 at'=at':=by
 refine Gr.ind (R:=fun k u _ _ _=>k=0->∀(i:Nat) (at':Int),jL w u i 0 at'=at') ?_ ?_ ?_ ?_ ?_ h rfl i at'
 ·intro k u N a h1 _ _ i at';exact bW w hw u h1.2 i 0 at'
 ·intro k t u x N a h1 _ _ ih _ i at'
  rw[jL,h1,eJ,tj,ih rfl];rintro⟨_,e⟩;rcases hw with rfl|rfl
  ·exact absurd e (by decide)
  ·exact absurd e (by decide)
 ·intro k o u c x N a h1 h2 h3 _ _ i at';exact Zf w hw h1 h2 h3 i at'
 ·intro k u t v x y N a h1 _ _ _ _ _ _ e;omega
 ·intro k u t v x y N a h1 _ _ _ _ _ _ e;omega
theorem Gr.out1(h:Gr k u x N a)(hk:k<=1)(i:Nat)(at':Int):jL jU u i 0 at'=at':=by
 refine Gr.ind (R:=fun k u _ _ _=>k<=1->∀(i:Nat) (at':Int),jL jU u i 0 at'=at') ?_ ?_ ?_ ?_ ?_ h hk i at'
 ·intro k u N a h1 _ _ i at';exact bW jU (.inl rfl) u h1.2 i 0 at'
 ·intro k t u x N a h1 _ _ ih _ i at'
  rw[jL,h1,eJ,tj (by rintro⟨_,e⟩;exact absurd e (by decide)),ih (by decide)]
 ·intro k o u c x N a h1 h2 h3 _ _ i at';exact Zf jU (.inl rfl) h1 h2 h3 i at'
 ·intro k u t v x y N a _ h2 _ h4 _ ihu ihv _ i at'
  rw[pA,ihu (by decide),h4.op,jL,h2,fW,tj (by rintro⟨_,e⟩;exact absurd e (by decide)),ihv (by decide)]
 ·intro k u t v x y N a h1 _ _ _ _ _ _ e;omega
theorem Gr.pos(h:Gr k u x N a):0<u.length:=by
 refine Gr.ind (R:=fun _ u _ _ _=>0<u.length) ?_ ?_ ?_ ?_ ?_ h
 ·intro k u N a h1 _;exact List.length_pos_iff.2 h1.1
 ·intro k t u x N a _ _ _ _;simp
 ·intro k o u c x N a _ _ _ _;simp
 ·intro k u t v x y N a _ _ _ _ _ _ _;simp only[tq,tz];omega
 ·intro k u t v x y N a _ _ _ _ _ _ _;simp only[tq,tz];omega
theorem Gr.bound(h:Gr k u x N a):0<=a/\a<N.length:=by
 refine Gr.ind (R:=fun _ _ _ N a=>0<=a/\a<(N.length:Int)) ?_ ?_ ?_ ?_ ?_ h
 ·intro k u N a _ h;exact⟨h.1,h.2.1⟩
 ·intro k t u x N a _ h _ _;exact⟨h.1,h.2.1⟩
 ·intro k o u c x N a _ _ _ ih;exact ih
 ·intro k u t v x y N a _ _ h _ _ _ _;exact⟨h.1,h.2.1⟩
 ·intro k u t v x y N a _ _ h _ _ _ _;exact⟨h.1,h.2.1⟩
theorem Gr.noEnd(h:Gr k u x N a):∀t∈u,zZ t.2≠uX:=by
 refine Gr.ind (R:=fun _ u _ _ _=>∀t∈u,zZ t.2≠uX) ?_ ?_ ?_ ?_ ?_ h
 ·intro k u N a h1 _ t ht;exact(h1.2 t ht).2.2.2.2.1
 ·intro k o u x N a h1 _ _ ih t ht
  rcases pf.1 ht with rfl|ht
  ·rw[h1];decide
  ·exact ih t ht
 ·intro k o u c x N a h1 h2 _ ih t ht
  rcases pf.1 ht with rfl|ht
  ·rw[h1];decide
  ·rcases ph.1 ht with ht|ht
   ·exact ih t ht
   ·obtain rfl:=pr.1 ht;rw[h2];decide
 ·intro k u o v x y N a _ h2 _ _ _ ihu ihv t ht
  rcases ph.1 ht with ht|ht
  ·exact ihu t ht
  ·rcases pf.1 ht with rfl|ht
   ·rw[h2];decide
   ·exact ihv t ht
 ·intro k u o v x y N a _ h2 _ _ _ ihu ihv t ht
  rcases ph.1 ht with ht|ht
  ·exact ihu t ht
  ·rcases pf.1 ht with rfl|ht
   ·rw[h2];decide
   ·exact ihv t ht
end gr
theorem zm(h:Gr k u x N a)(n:Nat)(hn:u.length<n):tR n u=x/\pC n u=true:=by
 refine Gr.ind (R:=fun _ u x _ _=>∀n,u.length<n->tR n u=x/\pC n u=true) ?_ ?_ ?_ ?_ ?_ h n hn
 ·intro k u N a h _ n hn
  obtain⟨n,rfl⟩:∃m,n=m+1:=⟨n-1,by omega⟩;have e1:uC u jU = -1:=bW jU (.inl rfl) u h.2 0 0 (-1);have e2:uC u xT = -1:=bW xT (.inr rfl) u h.2 0 0 (-1)
  have hp:pF (zZ (u.getD 0 (0,[])).2):=by
   obtain⟨h1,h2⟩:=h
   cases u with
   | nil=>exact absurd rfl h1
   | cons t r=>exact h2 t (bm ..)
  have hl:0<u.length:=List.length_pos_iff.2 h.1;rw[tR,pC,e1,e2,tj (by omega),tj (by omega),tj hp.2.2.2.2.2,tj hp.2.2.2.1,tj (by omega),tj (by omega),tj hp.2.2.2.2.2,tj hp.2.2.2.1];exact⟨rfl,ty hl⟩
 ·intro k t u x N a h1 h2 h3 ih n hn
  obtain⟨n,rfl⟩:∃m,n=m+1:=⟨n-1,by omega⟩;have hW:Gr 0 (t::u) (Bi x) N a:=cQ.neg _ _ _ _ _ _ h1 h2 h3;have e1:uC (t::u) jU = -1:=hW.out0 jU (.inl rfl) 0 (-1);have e2:uC (t::u) xT = -1:=hW.out0 xT (.inr rfl) 0 (-1);have hc:zZ ((t::u).getD 0 (0,[])).2=yX:=h1;obtain⟨i1,i2⟩:=ih n (by simp at hn;omega);rw[tR,pC,e1,e2,tj (by omega),tj (by omega),tr hc,tj (by omega),tj (by omega),tr hc];simp only[List.drop_succ_cons,List.drop_zero,i1,i2,Bi,tz];exact⟨trivial,by simp⟩
 ·intro k o u c x N a h1 h2 h3 ih n hn
  obtain⟨n,rfl⟩:∃m,n=m+1:=⟨n-1,by omega⟩;have e1:uC (o::(u++[c])) jU = -1:=Zf jU (.inl rfl) h1 h2 h3 0 (-1);have e2:uC (o::(u++[c])) xT = -1:=Zf xT (.inr rfl) h1 h2 h3 0 (-1);have hc:zZ ((o::(u++[c])).getD 0 (0,[])).2=yO:=h1;have hc':¬zZ ((o::(u++[c])).getD 0 (0,[])).2=yX:=by rw[hc];decide
  have hp:=h3.pos;obtain⟨i1,i2⟩:=ih n (by simp at hn;omega);rw[tR,pC,e1,e2,tj (by omega),tj (by omega),tj hc',tr hc,tj (by omega),tj (by omega),tj hc',tr hc];have e3:((o::(u++[c])).drop 1).take ((o::(u++[c])).length-2)=u:=by simp
  rw[e3,i1,i2];refine⟨rfl,?_⟩;simp;omega
 ·intro k u t v x y N a h1 h2 h3 h4 h5 ihu ihv n hn
  obtain⟨n,rfl⟩:∃m,n=m+1:=⟨n-1,by omega⟩;have hW:Gr 1 (u++t::v) (zAW x y) N a:=cQ.and _ _ _ _ _ _ _ _ (tg _) h2 h3 h4 h5;have e1:uC (u++t::v) jU = -1:=hW.out1 (tg _) 0 (-1)
  have e2:uC (u++t::v) xT=u.length:=by
   unfold uC;rw[pA,h4.op,jL,h2,fW,tr ⟨rfl,rfl⟩,h5.out0 xT (.inr rfl)];omega
  obtain⟨x1,x2⟩:=zp (n:=n) e1 e2;have hl:(u++t::v).length=u.length+1+v.length:=by simp;omega
  obtain⟨i1,i2⟩:=ihu n (by omega);obtain⟨j1,j2⟩:=ihv n (by omega);have t1:(u++t::v).take u.length=u:=by simp
  have t2:(u++t::v).drop (u.length+1)=v:=by simp
  rw[t1,t2,i1,j1]at x1;rw[t1,t2,i2,j2]at x2;exact⟨x1,x2⟩
 ·intro k u t v x y N a h1 h2 h3 h4 h5 ihu ihv n hn
  obtain⟨n,rfl⟩:∃m,n=m+1:=⟨n-1,by omega⟩
  have e2:uC (u++t::v) jU=u.length:=by
   unfold uC;rw[pA,h4.op,jL,h2,YI,tr ⟨rfl,rfl⟩,h5.out1 (tg _)];omega
  obtain⟨x1,x2⟩:=zCC (n:=n) e2;have hl:(u++t::v).length=u.length+1+v.length:=by simp;omega
  obtain⟨i1,i2⟩:=ihu n (by omega);obtain⟨j1,j2⟩:=ihv n (by omega);have t1:(u++t::v).take u.length=u:=by simp
  have t2:(u++t::v).drop (u.length+1)=v:=by simp
  rw[t1,t2,i1,j1]at x1;rw[t1,t2,i2,j2]at x2;exact⟨x1,x2⟩
theorem Yd{M:List zN}(h:a<N.length):a<((N++M).length:Int):=by simp only[tq];omega
theorem Gr.ext(h:Gr k u x N a)(M:List zN):Gr k u x (N++M) a:=by
 refine Gr.ind (R:=fun k u x N a=>Gr k u x (N++M) a) ?_ ?_ ?_ ?_ ?_ h
 ·intro k u N a h1 h
  have e:qP (N++M) a.toNat=qP N a.toNat:=eO (by have:=h.1;have:=h.2.1;omega);refine cQ.test _ _ _ _ h1 ⟨h.1,Yd h.2.1,?_⟩;rw[e];exact h.2.2
 ·intro k t u x N a h1 h _ ih
  have e:qP (N++M) a.toNat=qP N a.toNat:=eO (by have:=h.1;have:=h.2.1;omega);have el:lf (N++M) a=lf N a:=by unfold lf;rw[e]
  exact cQ.neg _ _ _ _ _ _ h1 ⟨h.1,Yd h.2.1,by rw[e];exact h.2.2.1,by rw[el];exact h.2.2.2⟩ (by rw[el];exact ih)
 ·intro k o u c x N a h1 h2 _ ih;exact cQ.br _ _ _ _ _ _ _ h1 h2 ih
 ·intro k u t v x y N a h1 h2 h _ _ ihu ihv
  have e:qP (N++M) a.toNat=qP N a.toNat:=eO (by have:=h.1;have:=h.2.1;omega);have el:lf (N++M) a=lf N a:=by unfold lf;rw[e]
  have er:rg (N++M) a=rg N a:=by unfold rg;rw[e]
  exact cQ.and _ _ _ _ _ _ _ _ h1 h2 ⟨h.1,Yd h.2.1,by rw[e];exact h.2.2.1,by rw[el];exact h.2.2.2.1,by rw[er];exact h.2.2.2.2⟩ (by rw[el];exact ihu) (by rw[er];exact ihv)
 ·intro k u t v x y N a h1 h2 h _ _ ihu ihv
  have e:qP (N++M) a.toNat=qP N a.toNat:=eO (by have:=h.1;have:=h.2.1;omega);have el:lf (N++M) a=lf N a:=by unfold lf;rw[e]
  have er:rg (N++M) a=rg N a:=by unfold rg;rw[e]
  exact cQ.or _ _ _ _ _ _ _ _ h1 h2 ⟨h.1,Yd h.2.1,by rw[e];exact h.2.2.1,by rw[el];exact h.2.2.2.1,by rw[er];exact h.2.2.2.2⟩ (by rw[el];exact ihu) (by rw[er];exact ihv)
theorem Gr.kind(h:Gr k u x N a):((qP N a.toNat).kind=1/\x.2=2)\/((qP N a.toNat).kind=2/\x.2=1)\/(¬(qP N a.toNat).kind=1/\¬(qP N a.toNat).kind=2/\x.2=0):=by
 refine Gr.ind (R:=fun _ _ x N a=>((qP N a.toNat).kind=1/\x.2=2)\/((qP N a.toNat).kind=2/\x.2=1)\/(¬(qP N a.toNat).kind=1/\¬(qP N a.toNat).kind=2/\x.2=0)) ?_ ?_ ?_ ?_ ?_ h
 ·intro k u N a _ h;have h3:=h.2.2.1;exact .inr (.inr ⟨by omega,by omega,rfl⟩)
 ·intro k t u x N a _ h _ _;have h3:=h.2.2.1;exact .inr (.inr ⟨by omega,by omega,rfl⟩)
 ·intro k o u c x N a _ _ _ ih;exact ih
 ·intro k u t v x y N a _ _ h _ _ _ _;exact .inr (.inl ⟨h.2.2.1,rfl⟩)
 ·intro k u t v x y N a _ _ h _ _ _ _;exact .inl ⟨h.2.2.1,rfl⟩
theorem C5(hr:Gr k u x N a){f:Nat->cR->cR}(hf:∀st,f a.toNat st=yN x.1 st)(st:cR):C6 N f a.toNat st=yN (if x.2=2 then Uj x.1 else x.1) st:=by
 unfold C6;rcases hr.kind with ⟨h1,h2⟩|⟨h1,h2⟩|⟨h1,_,h2⟩
 ·rw[tr h1,tr h2,hf,Yq]
 ·rw[tj (by omega),tj (by omega),hf]
 ·rw[tj h1,tj (by omega),hf]
theorem zH3(hr:Gr k u x N a){f:Nat->cR->cR}(hf:∀st,f a.toNat st=yN x.1 st)(st:cR):zH4 N f a.toNat st=yN (if 0<x.2 then Uj x.1 else x.1) st:=by
 unfold zH4;rcases hr.kind with ⟨h1,h2⟩|⟨h1,h2⟩|⟨h1,h3,h2⟩
 ·rw[tr (.inl h1),tr (by omega),hf,Yq]
 ·rw[tr (.inr h1),tr (by omega),hf,Yq]
 ·rw[tj (by omega),tj (by omega),hf]
theorem w_gr(h:Gr k u x N a)(m:Nat)(st:cR)(hm:a.toNat<m):dQ N m a.toNat st=yN x.1 st:=by
 refine Gr.ind (R:=fun _ _ x N a=>∀(m:Nat) (st:cR),a.toNat<m->dQ N m a.toNat st=yN x.1 st) ?_ ?_ ?_ ?_ ?_ h m st hm
 ·intro k u N a hk h m st hm
  obtain⟨m,rfl⟩:∃j,m=j+1:=⟨m-1,by omega⟩;have h3:=h.2.2.1;rw[dQ,tj (by omega),tj (by omega),tj (by omega),h.2.2.2.1,fU hk.1]
 ·intro k t u x N a _ h hg ih m st hm
  obtain⟨m,rfl⟩:∃j,m=j+1:=⟨m-1,by omega⟩;have h3:=h.2.2.1;have hb:=hg.bound;have hl:=h.2.2.2;rw[dQ,tj (by omega),tj (by omega),tr h3,zH3 hg (fun st=>ih m st (by omega)),<-pZ,Bi];rfl
 ·intro k o u c x N a _ _ _ ih;exact ih
 ·intro k u t v x y N a _ _ h hu hv ihu ihv m st hm
  obtain⟨m,rfl⟩:∃j,m=j+1:=⟨m-1,by omega⟩;obtain⟨h1,h2,h3,h4,h5⟩:=h;have hb:=hu.bound;have hc:=hv.bound;rw[dQ,tj (by omega),tr h3,C5 hv (fun st=>ihv m st (by omega)),C5 hu (fun st=>ihu m st (by omega)),<-pZ,<-pZ,zAW];simp[xT]
 ·intro k u t v x y N a _ _ h hu hv ihu ihv m st hm
  obtain⟨m,rfl⟩:∃j,m=j+1:=⟨m-1,by omega⟩;obtain⟨h1,h2,h3,h4,h5⟩:=h;have hb:=hu.bound;have hc:=hv.bound;rw[dQ,tr h3,ihu m _ (by omega),ihv m _ (by omega),<-pZ,<-pZ,orT];simp[jU]
theorem ZV{c:UInt8}(h:so c=2):48<=c.toNat/\c.toNat<=57:=by
 unfold so Y6 at h;split at h
 ·omega
 ·split at h
  ·omega
  ·split at h <;> omega
def XK:Nat->List Nat->Nat
 | a,[]=>a
 | a,d::r=>XK (10*a+d) r
def Zb(s:Bs):List Nat:=s.map fun c=>c.toNat-48
theorem D7(a:Int)(c:UInt8)(r:Bs):qA a (c::r)=qA (10*a+((c.toNat:Int)-48)) r:=rfl
theorem zG6:∀(a:Nat),(∀c∈s,so c=2)->qA a s=XK a (Zb s):=by
 induction s with
 | nil=>intro a _;rfl
 | cons c r ih =>
   intro a h;have h1:=ZV (h c (bm ..));have h2:=ih (10*a+(c.toNat-48)) (fun x hx=>h x (pt _ hx));unfold Zb at h2 ⊢;rw[D7,cq,XK,<-h2];congr 1;omega
theorem zC5(s:List Nat):∀(a:Nat),(∀d∈s,d<=9)->XK a s+1<=(a+1)*10 ^ s.length:=by
 induction s with
 | nil=>intro a _;simp[XK]
 | cons d r ih =>
   intro a h;have h1:=h d (bm ..);rw[XK,tz,Nat.pow_succ];have h2:=ih (10*a+d) (fun x hx=>h x (pt _ hx));refine p8 h2 ?_;have h3:(10*a+d+1)<=(a+1)*10:=by omega
   have h4:=Nat.mul_le_mul_right (10 ^ r.length) h3;rw[Nat.mul_assoc]at h4;rw[Nat.mul_comm (10 ^ r.length) 10];exact h4
theorem Dl(h:∀c∈s,so c=2):∀d∈Zb s,d<=9:=by
 intro d hd;unfold Zb at hd;obtain⟨c,hc,rfl⟩:=pd.1 hd;have h1:=ZV (h c hc);omega
theorem zA5{u d:Nat}(h:1<=u)(hd:d<10):Lib.decDigits (10*u+d)=Lib.decDigits u++[UInt8.ofNat (48+d)]:=by
 rw[Lib.decDigits,dif_neg (by omega),show (10*u+d)/10=u by omega,show (10*u+d)%10=d by omega]
theorem Gx{c:UInt8}(h:48<=c.toNat):UInt8.ofNat (48+(c.toNat-48))=c:=by
 rw[show 48+(c.toNat-48)=c.toNat by omega];simp
theorem zEV(s:List Nat):∀(a:Nat),1<=a->(∀d∈s,d<=9)->Lib.decDigits (XK a s)=Lib.decDigits a++s.map (fun d=>UInt8.ofNat (48+d)):=by
 induction s with
 | nil=>intro a _ _;simp[XK]
 | cons d r ih =>
   intro a ha h;have h1:=h d (bm ..);rw[XK,ih _ (by omega) (fun x hx=>h x (pt _ hx)),zA5 ha (by omega)];simp
theorem Gm(h:∀c∈s,so c=2):(Zb s).map (fun d=>UInt8.ofNat (48+d))=s:=by
 induction s with
 | nil=>rfl
 | cons c r ih =>
   have h1:=ZV (h c (bm ..));have h2:=ih (fun x hx=>h x (pt _ hx));unfold Zb at h2 ⊢;rw[cq,cq,h2,Gx h1.1]
def VW(s:Bs):Prop:=s≠[]/\(so (s.getD 0 0)=2->∀c∈s,so c=2)
theorem Jy{s:Bs}(h:VW s)(hc:zZ s=xR):(0<=qA 0 s/\qA 0 s<=9999)/\Lib.itoa (qA 0 s)=s:=by
 have hk:=(aO s).2 hc;unfold yA at hk;split at hk
 ·split at hk
  ·exact absurd hk (by decide)
  ·split at hk <;> exact absurd hk (by decide)
 ·split at hk
  ·rename_i _ h2
   split at hk
   ·exact absurd hk (by decide)
   ·rename_i h3
    have hd:=h.2 h2;have e:=zG6 s 0 hd;have hl:=zC5 (Zb s) 0 (Dl s hd);have hln:(Zb s).length=s.length:=by simp[Zb]
    rw[hln]at hl;have h4:s.length<=4:=by omega
    have h5:10 ^ s.length<=10 ^ 4:=Nat.pow_le_pow_right (by decide) h4;refine⟨⟨by rw[show (0:Int)=((0:Nat):Int) from rfl,e];omega,by rw[show (0:Int)=((0:Nat):Int) from rfl,e];omega⟩,?_⟩;rw[show (0:Int)=((0:Nat):Int) from rfl,e,Lib.itoa,tj (by omega),Int.toNat_natCast];have hb:=Gm s hd;have hle:=Dl s hd
    cases hs:s with
    | nil=>exact absurd hs h.1
    | cons c r =>
      rw[hs]at hd hb hle h3;have h6:=ZV (hd c (bm ..));have ed:Zb (c::r)=(c.toNat-48)::Zb r:=by unfold Zb;rw[cq]
      rw[ed]at hb hle ⊢;rw[XK];generalize hz:c.toNat-48=z at hb hle ⊢;by_cases hz0:z=0
      ·have hc0:c=48:=by
        apply UInt8.toNat_inj.1;show c.toNat=48;omega
       have hr:r=[]:=by
        cases r with
        | nil=>rfl
        | cons x y=>exact absurd (Or.inr ⟨by simp,by simpa using hc0⟩) h3
       subst hr;rw[hz0,hc0];show Lib.decDigits 0=[48];rw[Lib.decDigits,dif_pos (by omega)];rfl
      ·rw[zEV (Zb r) _ (by omega) (fun x hx=>hle x (pt _ hx)),Lib.decDigits,dif_pos (by have:=hle z (bm ..);omega),show 10*0+z=z by omega]
       rw[cq]at hb;exact hb
  ·split at hk <;> exact absurd hk (by decide)
theorem DQ(k:Int)(l:Bs):∀c∈l.take (tZ k l),so c=k:=by
 induction l with
 | nil=>intro c h;simp at h
 | cons x r ih =>
   intro c h;rw[tZ]at h;split at h
   ·rename_i hx
    rw[List.take_succ_cons]at h;rcases pf.1 h with rfl|h
    ·exact hx
    ·exact ih c h
   ·simp at h
theorem Fi(n:Nat):∀(l:Bs) (p:Nat),∀t∈uH n l p,VW t.2:=by
 induction n with
 | zero=>intro l p t h;simp[uH]at h
 | succ n ih =>
   intro l p t h;rw[uH]at h;split at h
   ·simp at h
   ·split at h
    ·exact ih _ _ t h
    ·rename_i h0 _
     rcases pf.1 h with rfl|h
     ·cases l with
      | nil=>exact absurd rfl h0
      | cons c r =>
        have hp:=oA (c::r);obtain⟨m,hm⟩:∃m,uD (c::r)=m+1:=⟨uD (c::r)-1,by omega⟩;simp only[hm,List.take_succ_cons];refine⟨by simp,?_⟩;intro hs;have hs':so c=2:=hs
        have e:m=tZ 2 r:=by
         unfold uD at hm;simp only[List.getD_cons_zero,hs',List.drop_succ_cons,List.drop_zero]at hm;rw[tj (by decide)]at hm;omega
        intro x hx;rcases pf.1 hx with rfl|hx
        ·exact hs'
        ·exact DQ 2 r x (by rw[<-e];exact hx)
     ·exact ih _ _ t h
def gQ(ts:zT):Prop:=∀t∈ts,VW t.2
theorem Qd(l:Bs):gQ (xB l 0):=Fi _ _ _
theorem gQ.at'(h:gQ ts)(hi:i<ts.length):VW (tA ts i):=by
 unfold tA;rw[List.getD,pw hi];exact h _ (f9 hi)
theorem Gu:∀c∈jH,pF c/\c.isEmpty=false:=by decide
def mR:Bs:=[102,97,99,116]
def Jm:Bs:=[104,97,115]
def xe:Bs:=[116,104,97,110]
def iD:Bs:=[97,108,119,97,121,115]
theorem zAD(i:Nat):xY P (i,true)=([],(i,true)):=by
 unfold xY;split <;> rfl
def zJK(x:zN)(u:zT):Prop:=(4<=x.kind/\x.kind<=7)/\(0<=x.num/\x.num<=9999)/\(∀st,Kr x st=kC u st)/\zFU x u
abbrev TT(ts:zT)(i:Nat):Nat × Bs:=ts.getD i (0,[])
theorem Bf:kO mR=[yX,yO,iD,Jm,xP]:=by decide
theorem Fx:kO Jm=[xP]:=by decide
theorem Bc:kO xe=[xP,xR]:=by decide
theorem zCD{c:Bs}{op:Int}(h:c∈jH):uB mU c op=xe/\opn c op=op:=by
 simp only[jH,pf,lu,dc]at h;rcases h with rfl|rfl|rfl|rfl|rfl|rfl <;> exact⟨rfl,rfl⟩
def zF8(ts:zT)(len i:Nat)(op:Int)(r:zN × St):Prop :=
 (r.2.2=true/\FA ts len i mR op=((yT (pp ts len) r.2.1).p:Int)) \/
 (r.2.2=false/\i<r.2.1/\r.2.1<=ts.length/\FA ts len i mR op=FA ts len r.2.1 pP op/\∃u,ts.drop i=u++ts.drop r.2.1/\Jf u/\zJK r.1 u/\nB u (vz r.1))
theorem aN:∀c∈jH,c≠xP/\c≠[104,97,115]:=by decide
theorem J1{p nx:Bs}(hp:p≠[104,97,115])(h:p∈jH\/nx∈jH):nV p nx=2:=by unfold nV;rw[tj hp,tr h]
theorem zDG{p nx:Bs}(hp:neut p)(h:nx ∉ jH):nV p nx=3:=by unfold nV;rw[tj hp.1,tj (by rintro(h' | h');exact hp.2 h';exact h h')]
theorem zt{len:Nat}(zK5:gQ ts)(h:i<=ts.length)(op:Int)(hn:cA ts i≠yX)(ho:cA ts i≠yO):zF8 ts len i op (yZ (pp ts len) (i,false)):=by
 rcases lW (len:=len) h (t:=iD) (by decide) with ⟨hc,hi,e⟩|⟨hc,e⟩
 ·have hw:=(lP (by decide) hc).2
  have e':yZ (pp ts len) (i,false)=(⟨4,0,0,[],[],[],0⟩,(i+1,false)):=by
   unfold iD at e;simp only[yZ,e]
  rw[e'];refine .inr ⟨rfl,mt _,hi,uG hi hc rfl (by decide) rfl,[TT ts i],zL ts i hi,⟨by simp,?_⟩,⟨by simp,by simp,?_,.inl ⟨rfl,_,rfl,hc⟩⟩,?_⟩
  ·intro t ht;obtain rfl:=pr.1 ht
   show pF (cA ts i);rw[hc];decide
  ·intro st;show yN _ st=yN (tA ts i) st;rw[hw];rfl
  ·intro p nx _ _
   have h8:zZ (TT ts i).2=iD:=hc;rw[kP,h8,tj (by decide),kP];rfl
 unfold iD at e;rcases lW (len:=len) h (t:=Jm) (by decide) with ⟨hc2,hi,e2⟩|⟨hc2,e2⟩
 ·have hw:=(lP (by decide) hc2).2
  unfold Jm at e2;have hf:FA ts len i mR op=FA ts len (i+1) Jm op:=uG hi hc2 rfl (by decide) rfl;rcases cC (len:=len) (show i+1<=ts.length from hi) with ⟨hc3,hi3,e3⟩|⟨hc3,e3⟩
  ·have e':yZ (pp ts len) (i,false)=(⟨5,0,0,tA ts (i+1),[],[],0⟩,(i+1+1,false)):=by
    simp only[yZ,e,e2,e3]
   rw[e'];refine .inr ⟨rfl,(by show i<i+1+1;omega),hi3,hf.trans (uG hi3 hc3 rfl (by decide) rfl),[TT ts i,TT ts (i+1)],?_,⟨by simp,?_⟩,⟨by simp,by simp,?_,.inr (.inl ⟨rfl,_,_,rfl,hc2,hc3,rfl⟩)⟩,?_⟩
   ·rw[zL ts i hi,zL ts (i+1) hi3];rfl
   ·intro t ht
    simp only[pf,lu,dc]at ht;rcases ht with rfl|rfl
    ·show pF (cA ts i);rw[hc2];decide
    ·show pF (cA ts (i+1));rw[hc3];decide
   ·intro st;show yN _ (yN _ st)=yN (tA ts (i+1)) (yN (tA ts i) st);rw[hw];rfl
   ·intro p nx _ _
    have h8:zZ (TT ts i).2=Jm:=hc2;have h9:zZ (TT ts (i+1)).2=xP:=hc3;rw[kP,h8,tj (by decide),kP,h9,tr rfl,kP];show []++([(nV Jm nx,tA ts (i+1))]++[])=_;rw[show nV Jm nx=1 from tr rfl];rfl
  ·have e':(yZ (pp ts len) (i,false)).2=(i+1,true):=by
    simp only[yZ,e,e2,e3]
   refine .inl ⟨by rw[e'],?_⟩;rw[e',hf];exact dO hi (pQ (by decide) (by decide) (by rw[Fx];simpa using hc3)) (.inr (by decide))
 unfold Jm at e2;rcases cC (len:=len) h with ⟨hc3,hi3,e3⟩|⟨hc3,e3⟩
 ·have hf:FA ts len i mR op=FA ts len (i+1) mU op:=uG hi3 hc3 rfl (by decide) rfl
  rcases zI1 (len:=len) (show i+1<=ts.length from hi3) with ⟨hc4,hi4,hw4,e4⟩|⟨hc4,e4⟩
  ·obtain⟨n1,n2⟩:=zCD (op:=op) hc4
   obtain⟨q1,q2⟩:=Gu _ hc4;have hf2:FA ts len i mR op=FA ts len (i+1+1) xe op:=hf.trans (uG hi4 rfl n1 (by decide) n2);have hi5:i+1+1<=ts.length:=hi4;rcases eK (len:=len) hi5 with ⟨hc6,hi6,e6⟩|⟨hc6,e6⟩
   ·have e5:=Yf (len:=len) hi5 false
    rw[ty hc6]at e5
    have e':yZ (pp ts len) (i,false)=(⟨7,0,0,tA ts i,cA ts (i+1),[],qA 0 (tA ts (i+1+1))⟩,(i+1+1+1,false)):=by
     simp only[yZ,e,e2,e3,e4,q2,e5,e6]
    obtain⟨v1,v2⟩:=Jy (zK5.at' hi6) hc6;rw[e'];refine .inr ⟨rfl,(by show i<i+1+1+1;omega),hi6,hf2.trans (uG hi6 hc6 rfl (by decide) rfl),[TT ts i,TT ts (i+1),TT ts (i+1+1)],?_,⟨by simp,?_⟩,⟨by simp,v1,?_,.inr (.inr (.inr ⟨rfl,_,_,_,rfl,hc3,rfl,(by show tA ts (i+1)∈jH;rw[hw4];exact hc4),hw4.symm,.inl ⟨hc6,rfl,rfl⟩⟩))⟩,?_⟩
    ·rw[zL ts i hi3,zL ts (i+1) hi4,zL ts (i+1+1) hi6];rfl
    ·intro t ht
     simp only[pf,lu,dc]at ht;rcases ht with rfl|rfl|rfl
     ·show pF (cA ts i);rw[hc3];decide
     ·exact q1
     ·show pF (cA ts (i+1+1));rw[hc6];decide
    ·intro st
     show sL (qA 0 (tA ts (i+1+1))) (yN (cA ts (i+1)) (yN (tA ts i) st))=yN (tA ts (i+1+1)) (yN (tA ts (i+1)) (yN (tA ts i) st));rw[sL,v2,hw4]
    ·intro p nx hp _
     have h7:zZ (TT ts i).2=xP:=hc3;have h8:zZ (TT ts (i+1)).2≠xP:=(aN _ hc4).1;have h9:zZ (TT ts (i+1+1)).2=xR:=hc6;rw[kP,h7,tr rfl,kP,tj h8,kP,h9,tj (by decide),kP];show [(nV p (cA ts (i+1)),tA ts i)]++([]++([]++[]))=_;rw[J1 hp.1 (.inr hc4)];rfl
   ·have e5:=Yf (len:=len) hi5 false
    rw[tu hc6]at e5;rcases cC (len:=len) hi5 with ⟨hc7,hi7,e7⟩|⟨hc7,e7⟩
    ·have e':yZ (pp ts len) (i,false)=(⟨7,0,0,tA ts i,cA ts (i+1),tA ts (i+1+1),0⟩,(i+1+1+1,false)):=by
      simp only[yZ,e,e2,e3,e4,q2,e5,e7]
     have zJZ:(tA ts (i+1+1)).isEmpty=false:=by
      have:=(zK5.at' hi7).1
      cases hx:tA ts (i+1+1) with
      | nil=>exact absurd hx this
      | cons a b=>rfl
     rw[e'];refine .inr ⟨rfl,(by show i<i+1+1+1;omega),hi7,hf2.trans (uG hi7 hc7 rfl (by decide) rfl),[TT ts i,TT ts (i+1),TT ts (i+1+1)],?_,⟨by simp,?_⟩,⟨by simp,by simp,?_,.inr (.inr (.inr ⟨rfl,_,_,_,rfl,hc3,rfl,(by show tA ts (i+1)∈jH;rw[hw4];exact hc4),hw4.symm,.inr ⟨hc7,rfl,(zK5.at' hi7).1⟩⟩))⟩,?_⟩
     ·rw[zL ts i hi3,zL ts (i+1) hi4,zL ts (i+1+1) hi7];rfl
     ·intro t ht
      simp only[pf,lu,dc]at ht;rcases ht with rfl|rfl|rfl
      ·show pF (cA ts i);rw[hc3];decide
      ·exact q1
      ·show pF (cA ts (i+1+1));rw[hc7];decide
     ·intro st
      show Kr ⟨7,0,0,tA ts i,cA ts (i+1),tA ts (i+1+1),0⟩ st=yN (tA ts (i+1+1)) (yN (tA ts (i+1)) (yN (tA ts i) st));rw[hw4];unfold Kr;simp only[zJZ];rfl
     ·intro p nx hp _
      have h7:zZ (TT ts i).2=xP:=hc3;have h8:zZ (TT ts (i+1)).2≠xP:=(aN _ hc4).1;have h9:zZ (TT ts (i+1+1)).2=xP:=hc7;rw[kP,h7,tr rfl,kP,tj h8,kP,h9,tr rfl,kP];show [(nV p (cA ts (i+1)),tA ts i)]++([]++([(nV (cA ts (i+1)) nx,tA ts (i+1+1))]++[]))=(2,tA ts i)::(if tA ts (i+1+1)=[] then [] else [(2,tA ts (i+1+1))]);rw[J1 hp.1 (.inr hc4),J1 (aN _ hc4).2 (.inl hc4),tj (zK5.at' hi7).1];rfl
    ·have e':(yZ (pp ts len) (i,false)).2=(i+1+1,true):=by
      simp only[yZ,e,e2,e3,e4,q2,e5,e7]
     refine .inl ⟨by rw[e'],?_⟩;rw[e',hf2];exact dO hi5 (pQ (by decide) (by decide) (by rw[Bc];simp[hc6,hc7])) (.inr (by decide))
  ·have e':yZ (pp ts len) (i,false)=(⟨6,0,0,tA ts i,[],[],0⟩,(i+1,false)):=by
    simp only[yZ,e,e2,e3,e4,List.isEmpty_nil]
   rw[e'];refine .inr ⟨rfl,mt _,hi3,hf.trans (zBI hc4),[TT ts i],zL ts i hi3,⟨by simp,?_⟩,⟨by simp,by simp,?_,.inr (.inr (.inl ⟨rfl,_,rfl,hc3,rfl⟩))⟩,?_⟩
   ·intro t ht;obtain rfl:=pr.1 ht
    show pF (cA ts i);rw[hc3];decide
   ·intro st;rfl
   ·intro p nx hp hx
    have h7:zZ (TT ts i).2=xP:=hc3;rw[kP,h7,tr rfl,kP];show [(nV p nx,tA ts i)]++[]=_;rw[zDG hp hx];rfl
 ·have e':(yZ (pp ts len) (i,false)).2=(i,true):=by
   simp only[yZ,e,e2,e3,zAD,List.isEmpty_nil]
  refine .inl ⟨by rw[e'],?_⟩;rw[e'];exact dO h (pQ (by decide) (by decide) (by rw[Bf];simp[hn,ho,hc,hc2,hc3])) (.inr (by decide))
theorem eN(N:List zN)(z:zN):qP (N++[z]) N.length=z:=by
 unfold qP;simp[List.getD]
def UW(z:zN)(a:Int):Prop :=
 (z.kind=1->0<=z.left/\z.left<a/\0<=z.right/\z.right<a) /\
 (z.kind=2->0<=z.left/\z.left<a/\0<=z.right/\z.right<a) /\
 (z.kind=3->0<=z.left/\z.left<a) /\
 (¬z.kind=1->¬z.kind=2->¬z.kind=3->(4<=z.kind/\z.kind<=7)/\0<=z.num/\z.num<=9999)
theorem lS.add{z:zN}(h:lS N)(hz:UW z N.length):lS (N++[z]):=by
 intro a ha;rcases py a N.length with h1|h1
 ·rw[eO h1];exact h a h1
 ·have e:a=N.length:=by rw[tq,mh]at ha;omega
  subst e;rw[eN];exact hz
theorem rM:lS []:=by intro a ha;exact absurd ha (by simp)
def rZ(u:zT)(y:Int × Int):Prop:=∀n,u.length<n->jR n u=y
theorem zBX(h:Jf u):rZ u (1,0):=by
 intro n hn;obtain⟨n,rfl⟩:∃m,n=m+1:=⟨n-1,by omega⟩;have e1:uC u jU = -1:=bW jU (.inl rfl) u h.2 0 0 (-1);have e2:uC u xT = -1:=bW xT (.inr rfl) u h.2 0 0 (-1)
 have hp:pF (zZ (u.getD 0 (0,[])).2):=by
  obtain⟨h1,h2⟩:=h
  cases u with
  | nil=>exact absurd rfl h1
  | cons t r=>exact h2 t (bm ..)
 rw[jR,e1,e2,tj (by omega),tj (by omega),tj hp.2.2.2.2.2,tj hp.2.2.2.1]
theorem zG2{y:Int × Int}(h1:zZ t.2=yX)(hW:Gr 0 (t::u) x N a)(hy:rZ u y):rZ (t::u) (y.1,y.2+1):=by
 intro n hn;obtain⟨n,rfl⟩:∃m,n=m+1:=⟨n-1,by omega⟩;have e1:uC (t::u) jU = -1:=hW.out0 jU (.inl rfl) 0 (-1);have e2:uC (t::u) xT = -1:=hW.out0 xT (.inr rfl) 0 (-1);have hc:zZ ((t::u).getD 0 (0,[])).2=yX:=h1;rw[jR,e1,e2,tj (by omega),tj (by omega),tr hc];simp only[List.drop_succ_cons,List.drop_zero,hy n (by simp at hn;omega)]
theorem zIT{o c:Nat × Bs}{y:Int × Int}(h1:zZ o.2=yO)(h2:zZ c.2=vJ)(h3:Gr k u x N a)(hy:rZ u y):rZ (o::(u++[c])) (y.1,y.2+1):=by
 intro n hn;obtain⟨n,rfl⟩:∃m,n=m+1:=⟨n-1,by omega⟩;have e1:uC (o::(u++[c])) jU = -1:=Zf jU (.inl rfl) h1 h2 h3 0 (-1);have e2:uC (o::(u++[c])) xT = -1:=Zf xT (.inr rfl) h1 h2 h3 0 (-1);have hc:zZ ((o::(u++[c])).getD 0 (0,[])).2=yO:=h1;have hc':¬zZ ((o::(u++[c])).getD 0 (0,[])).2=yX:=by rw[hc];decide
 rw[jR,e1,e2,tj (by omega),tj (by omega),tj hc',tr hc];have e3:((o::(u++[c])).drop 1).take ((o::(u++[c])).length-2)=u:=by simp
 rw[e3,hy n (by simp at hn;omega)]
theorem zG3{v:zT}{y:Bs × Int}{b:Int}{p q:Int × Int}(h2:zZ t.2=xT)(h4:Gr 1 u x N a)(h5:Gr 0 v y N b)(hp:rZ u p)(hq:rZ v q):rZ (u++t::v) (dE p q):=by
 intro n hn;obtain⟨n,rfl⟩:∃m,n=m+1:=⟨n-1,by omega⟩
 have e1:uC (u++t::v) jU = -1:=by
  unfold uC;rw[pA,h4.op,jL,h2,fW,tj (by rintro⟨_,h⟩;exact absurd h (by decide)),h5.out1 (by decide),h4.out1 (tg _)]
 have e2:uC (u++t::v) xT=u.length:=by
  unfold uC;rw[pA,h4.op,jL,h2,fW,tr ⟨rfl,rfl⟩,h5.out0 xT (.inr rfl)];omega
 have hl:(u++t::v).length=u.length+1+v.length:=by simp;omega
 have t1:(u++t::v).take u.length=u:=by simp
 have t2:(u++t::v).drop (u.length+1)=v:=by simp
 rw[jR,e1,e2,tj (by omega),tr (Int.natCast_nonneg _),Int.toNat_natCast,t1,t2,hp n (by omega),hq n (by omega)]
theorem zIS{v:zT}{y:Bs × Int}{b:Int}{p q:Int × Int}(h2:zZ t.2=jU)(h4:Gr 2 u x N a)(h5:Gr 1 v y N b)(hp:rZ u p)(hq:rZ v q):rZ (u++t::v) (dE p q):=by
 intro n hn;obtain⟨n,rfl⟩:∃m,n=m+1:=⟨n-1,by omega⟩
 have e2:uC (u++t::v) jU=u.length:=by
  unfold uC;rw[pA,h4.op,jL,h2,YI,tr ⟨rfl,rfl⟩,h5.out1 (tg _)];omega
 have hl:(u++t::v).length=u.length+1+v.length:=by simp;omega
 have t1:(u++t::v).take u.length=u:=by simp
 have t2:(u++t::v).drop (u.length+1)=v:=by simp
 rw[jR,e2,tr (Int.natCast_nonneg _),Int.toNat_natCast,t1,t2,hp n (by omega),hq n (by omega)]
def Wt(q:GS)(d:Int)(q':GS)(u:zT):Prop :=
 ∃y L,rZ u y/\0<=y.2/\q'.tests=q.tests+y.1/\(q.dep<=q'.dep/\d+y.2<=q'.dep/\(q'.dep=q.dep\/q'.dep=d+y.2))/\nB u L/\mW q'.nd=mW q.nd++L
def Uc(ts:zT)(len k i:Nat)(op d:Int)(q:GS)(r:Int × GS):Prop :=
 (r.2.s.2=true/\FA ts len i mR op=((yT (pp ts len) r.2.s.1).p:Int)) \/
 (r.2.s.2=false/\i<r.2.s.1/\r.2.s.1<=ts.length/\FA ts len i mR op=FA ts len r.2.s.1 pP op/\(∃M,r.2.nd=q.nd++M)/\lS r.2.nd /\
  (1<=k->cA ts r.2.s.1≠xT)/\(2<=k->cA ts r.2.s.1≠jU) /\
  ∃u x,Gr k u x r.2.nd r.1/\ts.drop i=u++ts.drop r.2.s.1/\Wt q d r.2 u)
theorem pS(item:GS->Int × GS)(tok:Bs)(kind:Int)(k:Nat)(left:Int)(q:GS)(h:q.s.2=true):(kQ P item tok kind k left q).2.s=q.s:=by
 cases k with
 | zero=>rfl
 | succ k =>
   obtain⟨⟨i,f⟩,nd,te,de⟩:=q;obtain rfl:f=true:=h;rw[kQ];rfl
structure zBF(tok:Bs)(kind:Int)(j:Nat):Prop where
 kw:tok∈zE4
 next:∀op,uB pP tok op=mR
 opn:∀op,opn tok op=op
 node:∀a l r,0<=l->l<a->0<=r->r<a->UW ⟨kind,l,r,[],[],[],0⟩ a
 make:∀N u t v x y l r,zZ t.2=tok->l<(N.length:Int)->r<(N.length:Int)->Gr (j+1) u x (N++[⟨kind,l,r,[],[],[],0⟩]) l->Gr j v y (N++[⟨kind,l,r,[],[],[],0⟩]) r ->
  ∃z,Gr (j+1) (u++t::v) z (N++[⟨kind,l,r,[],[],[],0⟩]) N.length
 wt:∀u t v x y N a b p q,zZ t.2=tok->Gr (j+1) u x N a->Gr j v y N b->rZ u p->rZ v q->rZ (u++t::v) (dE p q)
 neut:tok≠xP/\neut tok
 kind:kind=1\/kind=2
 exits:∀c,c≠tok->(1<=j->c≠xT)->(1<=j+1->c≠xT)/\(2<=j+1->c≠jU)
theorem VM(kind l r:Int)(N:List zN)(hl:l<(N.length:Int))(hr:r<(N.length:Int)):zBL kind (N++[⟨kind,l,r,[],[],[],0⟩]) N.length/\lf (N++[⟨kind,l,r,[],[],[],0⟩]) N.length=l/\rg (N++[⟨kind,l,r,[],[],[],0⟩]) N.length=r:=by
 have e:qP (N++[⟨kind,l,r,[],[],[],0⟩]) (N.length:Int).toNat=⟨kind,l,r,[],[],[],0⟩:=by rw[Int.toNat_natCast];exact eN _ _
 have el:lf (N++[⟨kind,l,r,[],[],[],0⟩]) N.length=l:=by unfold lf;rw[e]
 have er:rg (N++[⟨kind,l,r,[],[],[],0⟩]) N.length=r:=by unfold rg;rw[e]
 exact⟨⟨by omega,by simp only[tq,mh];omega,by rw[e],by rw[el];exact hl,by rw[er];exact hr⟩,el,er⟩
theorem FH:zBF xT 2 0:={
 kw:=by decide
 next:=fun op=>by rw[rA,tj (by rintro(⟨h,_⟩|⟨h,_⟩) <;> exact absurd h (by decide))];decide
 opn:=fW
 node:=fun a l r h1 h2 h3 h4=>⟨fun e=>absurd (show (2:Int)=1 from e) (by decide),fun _=>⟨h1,h2,h3,h4⟩,fun e=>absurd (show (2:Int)=3 from e) (by decide),fun _ e=>absurd rfl e⟩
 make:=fun N u t v x y l r hc hl hr h1 h2=>by
  obtain⟨hb,el,er⟩:=VM 2 l r N hl hr;exact⟨zAW x y,cQ.and _ _ _ _ _ _ _ _ (tg _) hc hb (by rw[el];exact h1) (by rw[er];exact h2)⟩
 wt:=fun u t v x y N a b p q h1 h2 h3=>zG3 h1 h2 h3
 neut:=⟨by decide,by decide,by decide⟩
 kind:=.inr rfl
 exits:=fun c h _=>⟨fun _=>h,fun h=>absurd h (by decide)⟩ }
theorem qv:zBF jU 1 1:={
 kw:=by decide
 next:=fun op=>by rw[rA,tj (by rintro(⟨h,_⟩|⟨h,_⟩) <;> exact absurd h (by decide))];decide
 opn:=YI
 node:=fun a l r h1 h2 h3 h4=>⟨fun _=>⟨h1,h2,h3,h4⟩,fun e=>absurd (show (1:Int)=2 from e) (by decide),fun e=>absurd (show (1:Int)=3 from e) (by decide),fun e=>absurd rfl e⟩
 make:=fun N u t v x y l r hc hl hr h1 h2=>by
  obtain⟨hb,el,er⟩:=VM 1 l r N hl hr;exact⟨orT x y,cQ.or _ _ _ _ _ _ _ _ (tg _) hc hb (by rw[el];exact h1) (by rw[er];exact h2)⟩
 wt:=fun u t v x y N a b p q h1 h2 h3=>zIS h1 h2 h3
 neut:=⟨by decide,by decide,by decide⟩
 kind:=.inl rfl
 exits:=fun c h h2=>⟨fun _=>h2 (by decide),fun _=>h⟩ }
theorem KW{len j:Nat}{op:Int}{q0:GS}{tok:Bs}{kind:Int}{item:GS->Int × GS}(J:zBF tok kind j)
 (hitem:∀(q:GS) (i:Nat),q.s=(i,false)->i<=ts.length->ts.length+1-i<=n->lS q.nd->Uc ts len j i op d q (item q)) (k:Nat) :
 ∀(left:Int) (q:GS) (i':Nat) (u:zT) (x:Bs × Int),q.s=(i',false)->i<i'->i'<=ts.length->ts.length+1-i'<=n->ts.length+1-i'<=k->FA ts len i mR op=FA ts len i' pP op->(∃M,q.nd=q0.nd++M)->lS q.nd ->
  (1<=j->cA ts i'≠xT)->Gr (j+1) u x q.nd left->ts.drop i=u++ts.drop i'->Wt q0 d q u->Uc ts len (j+1) i op d q0 (kQ (pp ts len) item tok kind k left q):=by
 induction k with
 | zero=>intro left q i' u x _ _ h1 _ h2;omega
 | succ k ih =>
   intro left q i' u x hq zJS hle hn hk hf hM hg hx1 hr hd hwt;rw[kQ,hq];rcases lW (len:=len) hle J.kw with ⟨hc,hi,e⟩|⟨hc,e⟩
   ·rw[e]
    simp only;have hf2:FA ts len i mR op=FA ts len (i'+1) mR op:=hf.trans (uG hi hc (J.next op) (by decide) (J.opn op));have hI:=hitem (q.to (i'+1,false)) (i'+1) rfl hi (by omega) hg;generalize item (q.to (i'+1,false))=r at hI ⊢;rcases hI with ⟨h1,h2⟩|⟨h1,h2,h3,h4,⟨M,h5⟩,h6,h7,h8,v,y,h9,h10,h11⟩
    ·obtain⟨a,⟨⟨s1,s2⟩,nd,te,de⟩⟩:=r
     simp only at h1;subst h1;refine .inl ⟨?_,?_⟩
     ·rw[pS _ _ _ _ _ _ _ rfl];rfl
     ·rw[pS _ _ _ _ _ _ _ rfl,hf2];exact h2
    ·obtain⟨M0,hM⟩:=hM
     obtain⟨a,⟨⟨s1,s2⟩,nd,te,de⟩⟩:=r;simp only[GS.to]at h1 h2 h3 h4 h5 h6 h7 h8 h9 h10;subst h1;have bl:=(hr.ext M).bound;rw[<-h5]at bl;have br:=h9.bound
     have rl:Gr (j+1) u x (nd++[⟨kind,left,a,[],[],[],0⟩]) left:=by
      have:=hr.ext (M++[⟨kind,left,a,[],[],[],0⟩]);rw[<-pj,<-h5]at this;exact this
     obtain⟨z,hz⟩:=J.make nd u (TT ts i') v x y left a hc bl.2 br.2 rl (h9.ext _);refine ih _ _ s1 (u++TT ts i'::v) z rfl (by omega) h3 (by omega) (by omega) (hf2.trans h4) ⟨M0++M++[⟨kind,left,a,[],[],[],0⟩],?_⟩ ?_ h7 hz ?_ ?_
     ·show nd++[_]=_
      rw[h5,hM];simp
     ·exact lS.add h6 (J.node _ _ _ bl.1 bl.2 br.1 br.2)
     ·rw[hd,zL ts i' hi,h10];simp
     ·obtain⟨y1,L1,w1,w2,w3,w4,w5,w6⟩:=hwt
      obtain⟨y2,L2,v1,v2,v3,v4,v5,v6⟩:=h11;have hcls:zZ (TT ts i').2=tok:=hc;refine⟨dE y1 y2,L1++L2,J.wt _ _ _ _ _ _ _ _ _ _ hc rl (h9.ext _) w1 v1,?_,?_,?_,w5.join v5 (by rw[hcls];exact J.neut.1) (by rw[hcls];exact J.neut.2),?_⟩
      ·simp only[dE];split <;> omega
      ·simp only[GS.to]at v3
       show te=q0.tests+(y1.1+y2.1);omega
      ·simp only[GS.to]at v4
       show q0.dep<=de/\d+(dE y1 y2).2<=de/\(de=q0.dep\/de=d+(dE y1 y2).2);simp only[dE];split <;> omega
      ·simp only[GS.to]at v6
       show mW (nd++[_])=_;have e9:mW [⟨kind,left,a,[],[],[],0⟩]=[]:=by rcases J.kind with rfl|rfl <;> rfl
       rw[aC,e9,ms,v6,w6,pj]
   ·rw[e]
    simp only;obtain⟨e1,e2⟩:=J.exits (cA ts i') hc hx1;exact .inr ⟨rfl,zJS,hle,hf,hM,hg,e1,e2,u,x,hr,hd,hwt⟩
theorem Qf{len:Nat}{op:Int}{fact:GS->Int->Int × GS}
 (hitem:∀(q:GS) (i:Nat),q.s=(i,false)->i<=ts.length->ts.length+1-i<=n->lS q.nd->Uc ts len 0 i op d q (fact q d))
 (q:GS) (i:Nat) (hq:q.s=(i,false)) (hi:i<=ts.length) (hn:ts.length+1-i<=n) (hg:lS q.nd):Uc ts len 1 i op d q (qZ (pp ts len) fact q d):=by
 unfold qZ;have hI:=hitem q i hq hi hn hg;generalize fact q d=r at hI ⊢;obtain⟨a,⟨⟨s1,s2⟩,nd,te,de⟩⟩:=r;rcases hI with ⟨h1,h2⟩|⟨h1,h2,h3,h4,h5,h6,h7,h8,v,y,h9,h10,h11⟩
 ·simp only at h1
  subst h1;refine .inl ⟨?_,?_⟩
  ·rw[pS _ _ _ _ _ _ _ rfl]
  ·rw[pS _ _ _ _ _ _ _ rfl];exact h2
 ·simp only at h1 h2 h3 h4 h5 h6 h7 h8 h9 h10
  subst h1;exact KW FH hitem (pp ts len).length a ⟨(s1,false),nd,te,de⟩ s1 v y rfl h2 h3 (by omega) (by rw[sW];omega) h4 h5 h6 (fun h=>absurd h (by decide)) (h9.le (by decide)) h10 h11
theorem Du{len:Nat}{op:Int}{fact:GS->Int->Int × GS}
 (hitem:∀(q:GS) (i:Nat),q.s=(i,false)->i<=ts.length->ts.length+1-i<=n->lS q.nd->Uc ts len 0 i op d q (fact q d))
 (q:GS) (i:Nat) (hq:q.s=(i,false)) (hi:i<=ts.length) (hn:ts.length+1-i<=n) (hg:lS q.nd):Uc ts len 2 i op d q (bJ (pp ts len) fact q d):=by
 unfold bJ;have hI:=Qf hitem q i hq hi hn hg;generalize qZ (pp ts len) fact q d=r at hI ⊢;obtain⟨a,⟨⟨s1,s2⟩,nd,te,de⟩⟩:=r;rcases hI with ⟨h1,h2⟩|⟨h1,h2,h3,h4,h5,h6,h7,h8,v,y,h9,h10,h11⟩
 ·simp only at h1
  subst h1;refine .inl ⟨?_,?_⟩
  ·rw[pS _ _ _ _ _ _ _ rfl]
  ·rw[pS _ _ _ _ _ _ _ rfl];exact h2
 ·simp only at h1 h2 h3 h4 h5 h6 h7 h8 h9 h10
  subst h1;exact KW qv (fun q i=>Qf hitem q i) (pp ts len).length a ⟨(s1,false),nd,te,de⟩ s1 v y rfl h2 h3 (by omega) (by rw[sW];omega) h4 h5 h6 (fun _=>h7 (by decide)) (h9.le (by decide)) h10 h11
theorem jo{len:Nat}(zK5:gQ ts)(n:Nat):∀(op d:Int),0<=op->∀(q:GS) (i:Nat),q.s=(i,false)->i<=ts.length->ts.length+1-i<=n->lS q.nd->Uc ts len 0 i op d q (yJ (pp ts len) n q d):=by
 induction n with
 | zero=>intro op d _ q i _ h1 h2;omega
 | succ n ih =>
   intro op d hop q i hq hi hn hg;rw[yJ,hq];rcases lW (len:=len) hi (t:=yX) (by decide) with ⟨hc,zJS,e⟩|⟨hc,e⟩
   ·rw[e]
    simp only;have hf:FA ts len i mR op=FA ts len (i+1) mR op:=uG zJS hc rfl (by decide) (eJ op);have hI:=ih op (d+1) hop (q.to (i+1,false)) (i+1) rfl zJS (by omega) hg;generalize yJ (pp ts len) n (q.to (i+1,false)) (d+1)=r at hI ⊢;rcases hI with ⟨h1,h2⟩|⟨h1,h2,h3,h4,⟨M,h5⟩,h6,h7,h8,v,y,h9,h10,h11⟩
    ·exact .inl ⟨h1,by rw[hf];exact h2⟩
    ·obtain⟨a,⟨⟨s1,s2⟩,nd,te,de⟩⟩:=r
     simp only[GS.to]at h1 h2 h3 h4 h5 h6 h7 h8 h9 h10;subst h1;have br:=h9.bound;have en:qP (nd++[⟨3,a,0,[],[],[],0⟩]) (nd.length:Int).toNat=⟨3,a,0,[],[],[],0⟩:=by rw[Int.toNat_natCast];exact eN _ _
     have el:lf (nd++[⟨3,a,0,[],[],[],0⟩]) nd.length=a:=by unfold lf;rw[en]
     have hgr:Gr 0 (TT ts i::v) (Bi y) (nd++[⟨3,a,0,[],[],[],0⟩]) (nd.length:Int):=by
      refine cQ.neg _ _ _ _ _ _ hc ⟨by omega,by simp only[tq,mh];omega,by rw[en],by rw[el];exact br.2⟩ ?_;rw[el];exact h9.ext _
     have hcls:zZ (TT ts i).2=yX:=hc;refine .inr ⟨rfl,(by show i<s1;omega),h3,hf.trans h4,⟨M++[⟨3,a,0,[],[],[],0⟩],?_⟩,?_,fun h=>absurd h (by decide),fun h=>absurd h (by decide),TT ts i::v,Bi y,hgr,?_,?_⟩
     ·show nd++[_]=_
      rw[h5];simp
     ·exact lS.add h6 ⟨fun e=>absurd (show (3:Int)=1 from e) (by decide),fun e=>absurd (show (3:Int)=2 from e) (by decide),fun _=>br,fun _ _ e=>absurd rfl e⟩
     ·show ts.drop i=(TT ts i::v)++ts.drop s1
      rw[zL ts i zJS,h10];rfl
     ·obtain⟨y2,L2,v1,v2,v3,v4,v5,v6⟩:=h11
      simp only[GS.to]at v3 v4 v6;refine⟨(y2.1,y2.2+1),L2,zG2 hc hgr v1,by simp only;omega,v3,?_,v5.ahead (by rw[hcls];decide) (by rw[hcls];exact⟨by decide,by decide⟩),?_⟩
      ·show q.dep<=de/\d+(y2.2+1)<=de/\(de=q.dep\/de=d+(y2.2+1))
       omega
      ·show mW (nd++[_])=_
       rw[aC,v6,show mW [⟨3,a,0,[],[],[],0⟩]=[] from rfl,ms]
   rw[e];simp only;rcases lW (len:=len) hi (t:=yO) (by decide) with ⟨hc2,zJS,e2⟩|⟨hc2,e2⟩
   ·rw[e2]
    simp only;have hf:FA ts len i mR op=FA ts len (i+1) mR (op+1):=uG zJS hc2 rfl (by decide) (eI op);have hI:=Du (fun q i=>ih (op+1) (d+1) (by omega) q i) (q.to (i+1,false)) (i+1) rfl zJS (by omega) hg;generalize bJ (pp ts len) (yJ (pp ts len) n) (q.to (i+1,false)) (d+1)=r at hI ⊢;rcases hI with ⟨h1,h2⟩|⟨h1,h2,h3,h4,⟨M,h5⟩,h6,h7,h8,v,y,h9,h10,h11⟩
    ·obtain⟨a,⟨⟨s1,s2⟩,nd,te,de⟩⟩:=r
     simp only at h1;subst h1;exact .inl ⟨rfl,by rw[hf];exact h2⟩
    ·obtain⟨a,⟨⟨s1,s2⟩,nd,te,de⟩⟩:=r
     simp only[GS.to]at h1 h2 h3 h4 h5 h6 h7 h8 h9 h10;subst h1;simp only[GS.to];rcases dJ (len:=len) h3 (t:=vJ) (by decide) with ⟨hc3,hlt3,e3⟩|⟨hc3,e3⟩
     ·rw[e3]
      have hnx:uB pP vJ (op+1)=pP:=by
       rw[rA,tj (by rintro(⟨_,h⟩|⟨h,_⟩);omega;exact absurd h (by decide))];decide
      have hf3:=uG (len:=len) hlt3 hc3 hnx (by decide) (show opn vJ (op+1)=op by rw[eH];omega);refine .inr ⟨rfl,(by show i<s1+1;omega),hlt3,hf.trans (h4.trans hf3),⟨M,h5⟩,h6,fun h=>absurd h (by decide),fun h=>absurd h (by decide),TT ts i::(v++[TT ts s1]),y,cQ.br _ _ _ _ _ _ _ hc2 hc3 h9,?_,?_⟩
      ·show ts.drop i=(TT ts i::(v++[TT ts s1]))++ts.drop (s1+1)
       rw[zL ts i zJS,h10,zL ts s1 hlt3];simp
      ·obtain⟨y2,L2,v1,v2,v3,v4,v5,v6⟩:=h11
       simp only[GS.to]at v3 v4 v6;have ho:zZ (TT ts i).2=yO:=hc2;have hs:zZ (TT ts s1).2=vJ:=hc3;refine⟨(y2.1,y2.2+1),L2,zIT hc2 hc3 h9 v1,by simp only;omega,v3,?_,(v5.behind (by rw[hs];decide) (by rw[hs];exact⟨by decide,by decide⟩)).ahead (by rw[ho];decide) (by rw[ho];exact⟨by decide,by decide⟩),v6⟩;show q.dep<=de/\d+(y2.2+1)<=de/\(de=q.dep\/de=d+(y2.2+1));omega
     ·rw[e3]
      refine .inl ⟨rfl,?_⟩;rw[hf,h4];exact dO h3 (Za (h8 (by decide)) (h7 (by decide)) (fun e=>absurd e hc3) (fun _=>by omega)) (.inr (by decide))
   ·rw[e2]
    simp only;have hT:=zt (len:=len) zK5 hi op hc hc2;generalize yZ (pp ts len) (i,false)=r at hT ⊢;obtain⟨z,⟨s1,s2⟩⟩:=r;rcases hT with ⟨h1,h2⟩|⟨h1,h2,h3,h4,u,h5,h6,⟨h7,h8,h9,hTT⟩,h11⟩
    ·simp only at h1;subst h1
     exact .inl ⟨rfl,h2⟩
    ·simp only at h1 h2 h3 h4 h5 h7 h8 h9;subst h1
     have en:qP (q.nd++[z]) (q.nd.length:Int).toNat=z:=by rw[Int.toNat_natCast];exact eN _ _
     refine .inr ⟨rfl,h2,h3,h4,⟨[z],rfl⟩,?_,fun h=>absurd h (by decide),fun h=>absurd h (by decide),u,(bD u,0),?_,h5,?_⟩
     ·have hz:UW z q.nd.length:=⟨fun (e:z.kind=1)=>by omega,fun (e:z.kind=2)=>by omega,fun (e:z.kind=3)=>by omega,fun _ _ _=>⟨h7,h8⟩⟩
      exact lS.add hg hz
     ·show Gr 0 u (bD u,0) (q.nd++[z]) (q.nd.length:Int)
      refine cQ.test _ _ _ _ h6 ⟨by omega,by simp only[tq,mh];omega,?_⟩;rw[en];exact⟨h7.1,h9,hTT⟩
     ·refine⟨(1,0),vz z,zBX h6,by simp,rfl,?_,h11,?_⟩
      ·show q.dep<=(if q.dep<d then d else q.dep)/\d+0<=(if q.dep<d then d else q.dep)/\((if q.dep<d then d else q.dep)=q.dep\/(if q.dep<d then d else q.dep)=d+0)
       split <;> omega
      ·show mW (q.nd++[z])=_
       rw[aC];simp[mW]
theorem FT{len:Nat}(zK5:gQ ts)(hi:i<=ts.length):Uc ts len 2 i 0 0 ⟨(i,false),[],0,0⟩ (vL (pp ts len) (i,false)):=by
 unfold vL wF;exact Du (fun q i=>jo zK5 (pp ts len).length 0 0 (by decide) q i) ⟨(i,false),[],0,0⟩ i rfl hi (by rw[sW];omega) rM
end Go.Proofs.YtnbpdffdnphbeabGreatDoor
