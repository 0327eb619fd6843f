import Derived.Test.YtnbpdffdnphbeaaGreatDoorWsum
namespace Go.Proofs.YtnbpdffdnphbeaaGreatDoor
def pK(a b:Int × Int):Int × Int:=(a.1+b.1,if a.2<b.2 then b.2 else a.2)
def yG:Nat->zI->Int × Int
 | 0,_=>(0,0)
 | n+1,ts =>
   if 0<=yM ts vK then pK (yG n (ts.take (yM ts vK).toNat)) (yG n (ts.drop ((yM ts vK).toNat+1)))
   else if 0<=yM ts yL then pK (yG n (ts.take (yM ts yL).toNat)) (yG n (ts.drop ((yM ts yL).toNat+1)))
   else if zX (ts.getD 0 (0,[])).2=xF then ((yG n (ts.drop 1)).1,(yG n (ts.drop 1)).2+1)
   else if zX (ts.getD 0 (0,[])).2=yU then ((yG n ((ts.drop 1).take (ts.length-2))).1,(yG n ((ts.drop 1).take (ts.length-2))).2+1)
   else (1,0)
theorem tE(n:Nat):∀ts:zI,0<=(yG n ts).1/\(yG n ts).1<=ts.length+1/\0<=(yG n ts).2/\(yG n ts).2<=ts.length:=by
 induction n with
 | zero=>intro ts;simp[yG];omega
 | succ n ih =>
   intro ts;rw[yG];split
   ·rename_i h
    have hb:=(vC ts vK).2;have h1:=ih (ts.take (yM ts vK).toNat);have h2:=ih (ts.drop ((yM ts vK).toNat+1));rw[List.length_take]at h1;rw[List.length_drop]at h2;simp only[pK];split <;> omega
   ·split
    ·rename_i h
     have hb:=(vC ts yL).2;have h1:=ih (ts.take (yM ts yL).toNat);have h2:=ih (ts.drop ((yM ts yL).toNat+1));rw[List.length_take]at h1;rw[List.length_drop]at h2;simp only[pK];split <;> omega
    ·split
     ·rename_i h
      have h1:=ih (ts.drop 1)
      have h2:0<ts.length:=by
       cases ts with
       | nil=>exact absurd h (by decide)
       | cons _ _=>simp
      rw[List.length_drop]at h1;simp only;omega
     ·split
      ·rename_i h
       have h1:=ih ((ts.drop 1).take (ts.length-2))
       have h2:0<ts.length:=by
        cases ts with
        | nil=>exact absurd h (by decide)
        | cons _ _=>simp
       rw[List.length_take,List.length_drop]at h1;simp only;omega
      ·simp;omega
def ZY(r:zI)(nx:Bs):Bs:=match r with | []=>nx|s::_=>zX s.2
def vh(p:Bs):zI->Bs
 | []=>p
 | t::r=>vh (zX t.2) r
def CQ(p:Bs):zI->Bs
 | []=>p
 | t::r=>CQ t.2 r
def mT(p nx:Bs):Nat:=if p=[104,97,115] then 1 else if p∈kS\/nx∈kS then 2 else 3
def qN:Bs->zI->Bs->List (Nat × Bs)
 | _,[],_=>[]
 | p,t::r,nx=>(if zX t.2=yQ then [(mT p (ZY r nx),t.2)] else [])++qN (zX t.2) r nx
theorem DY(u v:zI)(nx:Bs):ZY (u++v) nx=ZY u (ZY v nx):=by cases u <;> rfl
theorem QK(u v:zI)(nx:Bs):∀p,qN p (u++v) nx=qN p u (ZY v nx)++qN (vh p u) v nx:=by
 induction u with
 | nil=>intro p;rfl
 | cons t r ih=>intro p;rw[List.cons_append,qN,ih,qN,vh,DY,List.append_assoc]
def neut(c:Bs):Prop:=c≠[104,97,115]/\c ∉ kS
def rF(u:zI)(L:List (Nat × Bs)):Prop:=∀p nx,neut p->nx ∉ kS->qN p u nx=L
theorem rF.join{u v:zI}{t:Nat × Bs}{L L':List (Nat × Bs)}(hu:rF u L)(hv:rF v L')(ht:zX t.2≠yQ)(hn:neut (zX t.2)):rF (u++t::v) (L++L'):=by
 intro p nx hp hnx;rw[QK,show ZY (t::v) nx=zX t.2 from rfl,hu p _ hp hn.2,qN,if_neg ht,List.nil_append,hv _ _ hn hnx]
theorem rF.ahead{u:zI}{t:Nat × Bs}{L:List (Nat × Bs)}(hu:rF u L)(ht:zX t.2≠yQ)(hn:neut (zX t.2)):rF (t::u) L:=by
 intro p nx _ hnx;rw[qN,if_neg ht,List.nil_append,hu _ _ hn hnx]
theorem rF.behind{u:zI}{t:Nat × Bs}{L:List (Nat × Bs)}(hu:rF u L)(ht:zX t.2≠yQ)(hn:neut (zX t.2)):rF (u++[t]) L:=by
 intro p nx hp _;rw[QK,show ZY [t] nx=zX t.2 from rfl,hu p _ hp hn.2,qN,if_neg ht,qN];simp
def KJ(x:yB):List (Nat × Bs) :=
 if x.kind=5 then [(1,x.name)] else if x.kind=6 then [(3,x.name)] else if x.kind=7 then (2,x.name)::(if x.other=[] then [] else [(2,x.other)]) else []
def jV(N:List yB):List (Nat × Bs):=N.flatMap KJ
theorem iG(N M:List yB):jV (N++M)=jV N++jV M:=by simp[jV]
def cF:zI->List (Nat × Bs)
 | []=>[]
 | t::r=>(if zX t.2=yQ then [(0,t.2)] else [])++cF r
def qV:zI->Nat
 | []=>0
 | t::r=>(if zX t.2=[43]\/zX t.2=[45] then 1 else 0)+qV r
def mD:Bs->zI->Bool
 | _,[]=>false
 | p,t::r=>(decide (zX t.2=[42])&&decide (9<xH 0 p)) || mD t.2 r
theorem DZ(u v:zI):cF (u++v)=cF u++cF v:=by
 induction u with
 | nil=>rfl
 | cons t r ih=>rw[List.cons_append,cF,ih,cF,List.append_assoc]
theorem Gh(u v:zI):qV (u++v)=qV u+qV v:=by
 induction u with
 | nil=>simp[qV]
 | cons t r ih=>rw[List.cons_append,qV,ih,qV];omega
theorem qq(u v:zI):∀p,mD p (u++v)=(mD p u || mD (CQ p u) v):=by
 induction u with
 | nil=>intro p;simp[mD,CQ]
 | cons t r ih=>intro p;rw[List.cons_append,mD,ih,mD,CQ,Bool.or_assoc]
def sC(x:xB):List (Nat × Bs):=if x.name=[] then [] else [(0,x.name)]
def jT(x:xB):Bool:=x.starred&&decide (9<x.num)
structure Qt(v:zI)(S:List xB):Prop where
 needs:cF v=S.flatMap sC
 count:qV v+1=S.length
 big:∀p,mD p v=S.any jT
 star:∀k,k<v.length->zX (v.getD k (0,[])).2=[42]->0<k/\zX (v.getD (k-1) (0,[])).2=zV
theorem Qt.join{u v:zI}{t:Nat × Bs}{S S':List xB}(hu:Qt u S)(hv:Qt v S')(ht:zX t.2=[43]\/zX t.2=[45]):Qt (u++t::v) (S++S'):=by
 have h1:zX t.2≠yQ:=by rcases ht with h|h <;> rw[h] <;> decide
 have h2:zX t.2≠[42]:=by rcases ht with h|h <;> rw[h] <;> decide
 refine⟨?_,?_,?_,?_⟩
 ·rw[DZ,cF,if_neg h1,hu.needs,hv.needs,List.flatMap_append,List.nil_append]
 ·rw[Gh,qV,if_pos ht,List.length_append,<-hu.count,<-hv.count];omega
 ·intro p;rw[qq,mD,hu.big,hv.big,decide_eq_false h2,List.any_append];simp
 ·intro k hk h
  rcases Nat.lt_trichotomy k u.length with h3|h3|h3
  ·have e:∀i,i<u.length->(u++t::v).getD i (0,[])=u.getD i (0,[]):=fun i hi=>by rw[List.getD,List.getD,List.getElem?_append_left hi]
   rw[e k h3]at h;obtain⟨h4,h5⟩:=hu.star k h3 h;exact⟨h4,by rw[e (k-1) (by omega)];exact h5⟩
  ·subst h3
   rw[List.getD,List.getElem?_append_right (Nat.le_refl _)]at h;simp only[Nat.sub_self,List.getElem?_cons_zero,Option.getD_some]at h;exact absurd h h2
  ·have e:∀i,u.length<i->(u++t::v).getD i (0,[])=v.getD (i-u.length-1) (0,[]):=fun i hi=>by
    rw[List.getD,List.getD,List.getElem?_append_right (by omega)];obtain⟨m,hm⟩:∃m,i-u.length=m+1:=⟨i-u.length-1,by omega⟩;rw[hm];rfl
   rw[e k h3]at h;obtain⟨h4,h5⟩:=hv.star (k-u.length-1) (by simp only[List.length_append,List.length_cons]at hk;omega) h;exact⟨by omega,by rw[e (k-1) (by omega),show k-1-u.length-1=k-u.length-1-1 by omega];exact h5⟩
def jI(st:Bs):List Bs:=(List.range 43).filterMap fun i=>if vA.getD (i*3) []=st then some (vA.getD (i*3+1) []) else none
theorem JI(st cl:Bs)(n:Nat):∀i,i+n<=43->cl ∉ jI st->xT st cl n i=[]:=by
 induction n with
 | zero=>intro i _ _;rfl
 | succ n ih =>
   intro i hi h;rw[xT,if_neg,ih (i+1) (by omega) h];rintro⟨h1,h2⟩;refine h (List.mem_filterMap.2 ⟨i,List.mem_range.2 (by omega),?_⟩);rw[if_pos h1,h2]
theorem Bn{st cl:Bs}{op:Int}(h1:st≠uN)(h2:st≠qB):zT st cl op=xT st cl 43 0:=by
 unfold zT;simp only[h1,false_and,if_false,h2]
theorem mS{st cl:Bs}{op:Int}(h1:st≠uN)(h2:st≠qB)(h:cl ∉ jI st):zT st cl op=[]:=by
 rw[Bn h1 h2];exact JI st cl 43 0 (by omega) h
theorem Bm:jI qB=[vK,yL,vD,qH]:=by decide
theorem KL:jI uN=kS:=by decide
theorem aO(cl:Bs)(op:Int):zT qB cl op=if cl=vD/\op=0\/cl=qH/\0<op then [] else xT qB cl 43 0:=by
 unfold zT;simp only[ite_self,true_and]
theorem ZD{cl:Bs}{op:Int}(h1:cl≠vK)(h2:cl≠yL)(h3:cl=vD->op=0)(h4:cl=qH->0<op):zT qB cl op=[]:=by
 rw[aO];split
 ·rfl
 ·rename_i h
  refine JI _ _ 43 0 (by omega) ?_;rw[Bm];simp only[List.mem_cons,List.not_mem_nil,or_false,h1,h2,false_or];rintro(e|e)
  ·exact h (.inl ⟨e,h3 e⟩)
  ·exact h (.inr ⟨e,h4 e⟩)
theorem Br{cl:Bs}{op:Int}(h:cl ∉ kS):zT uN cl op=zT qB cl op:=by
 by_cases hc:cl=vK\/cl=yL\/cl=vD\/cl=qH
 ·unfold zT
  simp only[hc,and_self,if_true,ite_self]
 ·have e1:zT uN cl op=xT uN cl 43 0:=by
   unfold zT;simp only[hc,and_false,if_false];rw[if_neg (by intro h;exact absurd h.1 (by decide))]
  rw[e1,JI _ _ 43 0 (by omega) (by rw[KL];exact h)];rw[ZD (fun e=>hc (.inl e)) (fun e=>hc (.inr (.inl e))) (fun e=>absurd (.inr (.inr (.inl e))) hc) (fun e=>absurd (.inr (.inr (.inr e))) hc)]
def jg:List Bs:=CS++KQ
theorem Z5:∀t∈jg,zX t=t/\vH t=4/\t≠Yx/\t≠yQ/\t≠zV:=by decide
theorem aV(s:Bs):(vH s=4/\s∈jg/\zX s=s)\/(vH s=2/\zX s=yQ)\/(vH s=3/\zX s=zV)\/(vH s=1/\zX s=Yx):=by
 unfold vH zX;rw[Cj,VQ];split
 ·split
  ·exact .inr (.inr (.inr ⟨rfl,rfl⟩))
  ·split
   ·rename_i h
    refine .inl ⟨rfl,?_,rfl⟩;unfold uY at h;exact List.mem_append.2 (.inl (by simpa using h))
   ·exact .inr (.inl ⟨rfl,rfl⟩)
 ·split
  ·split
   ·exact .inr (.inr (.inr ⟨rfl,rfl⟩))
   ·exact .inr (.inr (.inl ⟨rfl,rfl⟩))
  ·split
   ·rename_i h
    refine .inl ⟨rfl,?_,rfl⟩;unfold vI at h;exact List.mem_append.2 (.inr (by simpa using h))
   ·exact .inr (.inr (.inr ⟨rfl,rfl⟩))
theorem Cd{s t:Bs}(ht:t∈jg):(vH s=4/\s=t) ↔ zX s=t:=by
 obtain⟨a,b,c,d,e⟩:=Z5 t ht;constructor
 ·rintro⟨_,rfl⟩;exact a
 ·intro h
  rcases aV s with ⟨h1,_,h2⟩|⟨_,h2⟩|⟨_,h2⟩|⟨_,h2⟩
  ·exact⟨h1,h2.symm.trans h⟩
  ·exact absurd (h.symm.trans h2) d
  ·exact absurd (h.symm.trans h2) e
  ·exact absurd (h.symm.trans h2) c
theorem VE(s:Bs):vH s=2 ↔ zX s=yQ:=by
 rcases aV s with ⟨h1,h3,h2⟩|⟨h1,h2⟩|⟨h1,h2⟩|⟨h1,h2⟩
 ·obtain⟨a,b,c,d,e⟩:=Z5 s h3
  exact⟨fun h=>absurd (h1.symm.trans h) (by decide),fun h=>absurd (h2.symm.trans h) d⟩
 ·exact⟨fun _=>h2,fun _=>h1⟩
 ·exact⟨fun h=>absurd (h1.symm.trans h) (by decide),fun h=>absurd (h2.symm.trans h) (by decide)⟩
 ·exact⟨fun h=>absurd (h1.symm.trans h) (by decide),fun h=>absurd (h2.symm.trans h) (by decide)⟩
theorem mM(s:Bs):vH s=3 ↔ zX s=zV:=by
 rcases aV s with ⟨h1,h3,h2⟩|⟨h1,h2⟩|⟨h1,h2⟩|⟨h1,h2⟩
 ·obtain⟨a,b,c,d,e⟩:=Z5 s h3
  exact⟨fun h=>absurd (h1.symm.trans h) (by decide),fun h=>absurd (h2.symm.trans h) e⟩
 ·exact⟨fun h=>absurd (h1.symm.trans h) (by decide),fun h=>absurd (h2.symm.trans h) (by decide)⟩
 ·exact⟨fun _=>h2,fun _=>h1⟩
 ·exact⟨fun h=>absurd (h1.symm.trans h) (by decide),fun h=>absurd (h2.symm.trans h) (by decide)⟩
def pp(ts:zI)(len:Nat):List PT:=ts.map (fun t=>⟨vH t.2,t.2,pC t.2,t.1⟩)++[⟨0,[],0,len⟩]
theorem eY(ts:zI)(len:Nat):(pp ts len).length=ts.length+1:=by simp[pp]
def tA(ts:zI)(i:Nat):Bs:=(ts.getD i (0,[])).2
def cA(ts:zI)(i:Nat):Bs:=zX (tA ts i)
theorem JX{ts:zI}{i:Nat}(h:ts.length<=i):cA ts i=Yx:=by
 unfold cA tA;rw[List.getD,List.getElem?_eq_none h];decide
theorem ql{ts:zI}{i:Nat}(h:cA ts i≠Yx):i<ts.length:=by
 rcases Nat.lt_or_ge i ts.length with h1|h1
 ·exact h1
 ·exact absurd (JX h1) h
theorem cP{ts:zI}{i:Nat}{t:Bs}(ht:t∈jg)(h:cA ts i=t):i<ts.length/\tA ts i=t :=
 ⟨ql (by rw[h];exact(Z5 t ht).2.2.1),((Cd ht).2 h).2⟩
theorem nF{ts:zI}{len i:Nat}(h:i<ts.length):yP (pp ts len) i=⟨vH (tA ts i),tA ts i,pC (tA ts i),(ts.getD i (0,[])).1⟩:=by
 unfold yP pp tA;rw[List.getD,List.getElem?_append_left (by simpa using h)];simp[List.getD,h]
theorem aU{ts:zI}{len:Nat}:yP (pp ts len) ts.length=⟨0,[],0,len⟩:=by
 unfold yP pp;simp[List.getD]
theorem Y5{ts:zI}{len i:Nat}(h:i<=ts.length){t:Bs}(ht:t∈jg):bD (pp ts len) t i false=decide (cA ts i=t):=by
 unfold bD;rcases Nat.lt_or_ge i ts.length with h1|h1
 ·rw[nF h1]
  simp only[Bool.not_false,Bool.true_and,<-Bool.decide_and];exact decide_eq_decide.2 (Cd ht)
 ·obtain rfl:i=ts.length:=by omega
  rw[aU,JX (Nat.le_refl _)];have h2:=(Z5 t ht).2.2.1;have h3:¬Yx=t:=fun e=>h2 e.symm;rw[decide_eq_false h3];rfl
theorem Kv{ts:zI}{len i:Nat}(h:i<=ts.length):qW (pp ts len) 2 i false=decide (cA ts i=yQ):=by
 unfold qW;rcases Nat.lt_or_ge i ts.length with h1|h1
 ·rw[nF h1]
  simp only[Bool.not_false,Bool.true_and];exact decide_eq_decide.2 (VE _)
 ·obtain rfl:i=ts.length:=by omega
  rw[aU,JX (Nat.le_refl _)];rfl
theorem YM{ts:zI}{len i:Nat}(h:i<=ts.length):qW (pp ts len) 3 i false=decide (cA ts i=zV):=by
 unfold qW;rcases Nat.lt_or_ge i ts.length with h1|h1
 ·rw[nF h1]
  simp only[Bool.not_false,Bool.true_and];exact decide_eq_decide.2 (mM _)
 ·obtain rfl:i=ts.length:=by omega
  rw[aU,JX (Nat.le_refl _)];rfl
section steps
variable {ts:zI} {len i:Nat}
theorem cU(h:i<=ts.length){t:Bs}(ht:t∈jg):(cA ts i=t/\i<ts.length/\zC (pp ts len) t (i,false)=(true,(i+1,false)))\/(cA ts i≠t/\zC (pp ts len) t (i,false)=(false,(i,false))):=by
 by_cases hc:cA ts i=t
 ·refine .inl ⟨hc,(cP ht hc).1,?_⟩
  simp only[zC,Y5 h ht,hc,decide_true,Jj]
 ·refine .inr ⟨hc,?_⟩
  simp only[zC,Y5 h ht,hc,decide_false,Jj]
theorem gX(h:i<=ts.length){t:Bs}(ht:t∈jg):(cA ts i=t/\i<ts.length/\zY (pp ts len) t (i,false)=(i+1,false))\/(cA ts i≠t/\zY (pp ts len) t (i,false)=(i,true)):=by
 by_cases hc:cA ts i=t
 ·refine .inl ⟨hc,(cP ht hc).1,?_⟩
  simp only[zY,Y5 h ht,hc,decide_true,Jj,Bool.not_true]
 ·refine .inr ⟨hc,?_⟩
  simp only[zY,Y5 h ht,hc,decide_false,Jj,Bool.not_false]
theorem fG(h:i<=ts.length):(cA ts i=yQ/\i<ts.length/\zN (pp ts len) (i,false)=(tA ts i,(i+1,false)))\/(cA ts i≠yQ/\zN (pp ts len) (i,false)=([],(i,true))):=by
 by_cases hc:cA ts i=yQ
 ·have hi:i<ts.length:=ql (by rw[hc];decide)
  refine .inl ⟨hc,hi,?_⟩;simp only[zN,Kv h,hc,decide_true,Jj,tk,nF hi,Bool.not_true]
 ·refine .inr ⟨hc,?_⟩
  simp only[zN,Kv h,hc,decide_false,Jj,tk,pz,Bool.not_false]
theorem K9{s:Bs}(h:zX s=zV):pC s=xH 0 s:=by unfold pC;rw[if_pos ((mM s).2 h)]
theorem wN(h:i<=ts.length):(cA ts i=zV/\i<ts.length/\yR (pp ts len) (i,false)=(xH 0 (tA ts i),(i+1,false)))\/(cA ts i≠zV/\yR (pp ts len) (i,false)=(0,(i,true))):=by
 by_cases hc:cA ts i=zV
 ·have hi:i<ts.length:=ql (by rw[hc];decide)
  refine .inl ⟨hc,hi,?_⟩;simp only[yR,YM h,hc,decide_true,Jj,tk,nF hi,Bool.not_true,K9 hc]
 ·refine .inr ⟨hc,?_⟩
  simp only[yR,YM h,hc,decide_false,Jj,tk,pz,Bool.not_false]
theorem YC(h:i<=ts.length)(b:Bool):isNum (pp ts len) (i,b)=decide (cA ts i=zV):=by
 rw[<-YM (len:=len) h];simp only[isNum,qW,Bool.not_false,Bool.true_and];rfl
theorem Cb:∀t∈kS,t∈jg:=by decide
theorem zEI(h:i<=ts.length):(cA ts i∈kS/\i<ts.length/\tA ts i=cA ts i/\vS (pp ts len) (i,false)=(cA ts i,(i+1,false)))\/(cA ts i ∉ kS/\vS (pp ts len) (i,false)=([],(i,false))):=by
 by_cases hc:cA ts i∈kS
 ·obtain⟨h1,h2⟩:=cP (Cb _ hc) rfl
  refine .inl ⟨hc,h1,h2,?_⟩;unfold vS;have e:(yP (pp ts len) i).s=cA ts i:=by rw[nF h1];exact h2
  simp only[e];rcases cU (len:=len) h (Cb _ hc) with ⟨_,_,h3⟩|⟨h3,_⟩
  ·simp only[List.contains_iff_mem.2 hc,h3]
  ·exact absurd rfl h3
 ·refine .inr ⟨hc,?_⟩
  unfold vS
  have e:kS.contains (yP (pp ts len) i).s=false:=by
   rw[Bool.eq_false_iff];intro h1;have h2:=List.contains_iff_mem.1 h1;rcases Nat.lt_or_ge i ts.length with h3|h3
   ·rw[nF h3]at h2
    have h4:tA ts i∈kS:=h2;exact hc (by unfold cA;rw[(Z5 _ (Cb _ h4)).1];exact h4)
   ·obtain rfl:i=ts.length:=by omega
    rw[aU]at h2;exact absurd (show ([]:Bs)∈kS from h2) (by decide)
  simp only[e]
theorem U8(P:List PT)(t:Bs)(i:Nat):zC P t (i,true)=(false,(i,true)):=rfl
theorem rR(P:List PT)(t:Bs)(i:Nat):zY P t (i,true)=(i,true):=rfl
theorem Bt(P:List PT)(i:Nat):zN P (i,true)=([],(i,true)):=rfl
theorem Xk(P:List PT)(i:Nat):yR P (i,true)=(0,(i,true)):=rfl
end steps
def FA(ts:zI)(len:Nat)(i:Nat)(st:Bs)(op:Int):Int:=kR len (ts.drop i) st op
theorem uT{ts:zI}{len i:Nat}{st cl st':Bs}{op op':Int}(h:i<ts.length)(hc:cA ts i=cl)(h1:zT st cl op=st')(h2:st'≠[])(h3:opn cl op=op'):FA ts len i st op=FA ts len (i+1) st' op':=by
 unfold FA;subst hc h1 h3;rw[zO ts i h,kR];exact if_neg h2
theorem nK{ts:zI}{len i:Nat}{st:Bs}{op:Int}(h0:i<=ts.length)(h1:zT st (cA ts i) op=[])(h2:i<ts.length\/st≠kX):FA ts len i st op=((yP (pp ts len) i).p:Int):=by
 unfold FA;rcases Nat.lt_or_ge i ts.length with h|h
 ·rw[zO ts i h,kR,nF h]
  show (if zT st (cA ts i) op=[] then _ else _)=_;rw[if_pos h1]
 ·obtain rfl:i=ts.length:=by omega
  rw[List.drop_length,kR,if_neg (by rcases h2 with h2|h2;omega;exact h2),aU]
theorem j8{ts:zI}{len i:Nat}{op:Int}(h:cA ts i ∉ kS):FA ts len i uN op=FA ts len i qB op:=by
 unfold FA;rcases Nat.lt_or_ge i ts.length with h1|h1
 ·rw[zO ts i h1,kR,kR]
  have e:zT uN (zX (ts.getD i (0,[])).2) op=zT qB (zX (ts.getD i (0,[])).2) op:=Br h;rw[e]
 ·rw[List.drop_eq_nil_of_le h1,kR,kR];rfl
abbrev tT(c:Bs):Prop:=c≠vK/\c≠yL/\c≠vD/\c≠yU/\c≠qH/\c≠xF
def Ui:zI->Int->Int
 | [],op=>op
 | t::r,op=>Ui r (opn (zX t.2) op)
theorem J5(u v:zI):∀op,Ui (u++v) op=Ui v (Ui u op):=by
 induction u with
 | nil=>intro op;rfl
 | cons t r ih=>intro op;exact ih _
theorem kL(w:Bs)(u v:zI):∀i op at',uX w (u++v) i op at'=uX w v (i+u.length) (Ui u op) (uX w u i op at'):=by
 induction u with
 | nil=>intro i op a;rfl
 | cons t r ih=>intro i op a;rw[List.cons_append,uX,ih,uX,Ui,List.length_cons];congr 1;omega
theorem DQ{c:Bs}(h:tT c)(op:Int):opn c op=op:=by unfold opn;rw[if_neg h.2.2.2.1,if_neg h.2.2.1]
theorem jw(u:zI)(h:∀t∈u,tT (zX t.2)):∀op,Ui u op=op:=by
 induction u with
 | nil=>intro op;rfl
 | cons t r ih=>intro op;rw[Ui,DQ (h t (List.mem_cons_self ..)),ih (fun x hx=>h x (List.mem_cons_of_mem _ hx))]
theorem tQ(w:Bs)(hw:w=vK\/w=yL)(u:zI)(h:∀t∈u,tT (zX t.2)):∀i op at',uX w u i op at'=at':=by
 induction u with
 | nil=>intro i op a;rfl
 | cons t r ih =>
   intro i op a;have h1:=h t (List.mem_cons_self ..);rw[uX,if_neg,ih (fun x hx=>h x (List.mem_cons_of_mem _ hx))];rintro⟨_,h2⟩;rcases hw with rfl|rfl
   ·exact h1.1 h2
   ·exact h1.2.1 h2
theorem wK(op:Int):opn yU op=op+1:=if_pos rfl
theorem wH(op:Int):opn vD op=op-1:=by unfold opn;rw[if_neg (by decide),if_pos rfl]
theorem wM(op:Int):opn xF op=op:=by unfold opn;rw[if_neg (by decide),if_neg (by decide)]
theorem iE(op:Int):opn vK op=op:=by unfold opn;rw[if_neg (by decide),if_neg (by decide)]
theorem dJ(op:Int):opn yL op=op:=by unfold opn;rw[if_neg (by decide),if_neg (by decide)]
theorem jt{n:Nat}{ts:zI}{k:Nat}(h:yM ts vK=k):pO (n+1) ts=((pO n (ts.take k)).1++[32,111,114,32]++(pO n (ts.drop (k+1))).1,2)/\qD (n+1) ts=(qD n (ts.take k)&&qD n (ts.drop (k+1))):=by
 rw[pO,qD,h,if_pos (by omega),if_pos (by omega)];exact⟨rfl,rfl⟩
theorem GU{n:Nat}{ts:zI}{k:Nat}(h0:yM ts vK = -1)(h:yM ts yL=k):pO (n+1) ts=((if (pO n (ts.take k)).2=2 then Uo (pO n (ts.take k)).1 else (pO n (ts.take k)).1)++[32,97,110,100,32]++(if (pO n (ts.drop (k+1))).2=2 then Uo (pO n (ts.drop (k+1))).1 else (pO n (ts.drop (k+1))).1),1)/\qD (n+1) ts=(qD n (ts.take k)&&qD n (ts.drop (k+1))):=by
 constructor
 ·rw[pO,h0,h,if_neg (by omega),if_pos (Int.natCast_nonneg k)];rfl
 ·rw[qD,h0,h,if_neg (by omega),if_pos (Int.natCast_nonneg k)];rfl
theorem lG(s r:Bs)(st:fW):xC (s++[32]++r) st=xC r (xC s st):=by
 obtain⟨o,il⟩:=st;cases il <;> simp[xC,zFK]
def kP:zI->fW->fW
 | [],st=>st
 | t::r,st=>kP r (xC t.2 st)
theorem eX(u v:zI):∀st,kP (u++v) st=kP v (kP u st):=by
 induction u with
 | nil=>intro st;rfl
 | cons t r ih=>intro st;exact ih _
theorem KA(r:zI):∀(s:Bs) (i:Nat) (st:fW),xC (Vu s (i+1) r) st=kP r (xC s st):=by
 induction r with
 | nil=>intro s i st;rfl
 | cons t r ih=>intro s i st;rw[Vu,if_pos (by omega),ih,lG,kP]
theorem oH{u:zI}(h:u≠[])(st:fW):kP u st=xC (dA u) st:=by
 cases u with
 | nil=>exact absurd rfl h
 | cons t r=>rw[dA,Vu,if_neg (by omega),List.nil_append,KA,kP]
theorem YH(s:Bs)(st:fW):xC (Uo s) st=xC vD (xC s (xC yU st)):=by
 rw[<-lG,<-lG];simp[Uo,vD,yU]
theorem wU{N M:List yB}{a:Nat}(h:a<N.length):qX (N++M) a=qX N a:=by
 unfold qX;rw[List.getD,List.getElem?_append_left h];rfl
abbrev lf(N:List yB)(a:Int):Int:=(qX N a.toNat).left
abbrev rg(N:List yB)(a:Int):Int:=(qX N a.toNat).right
def zCY(x:yB)(u:zI):Prop :=
 (x.kind=4/\∃t,u=[t]/\zX t.2=[97,108,119,97,121,115]) \/
 (x.kind=5/\∃t s,u=[t,s]/\zX t.2=[104,97,115]/\zX s.2=yQ/\x.name=s.2) \/
 (x.kind=6/\∃t,u=[t]/\zX t.2=yQ/\x.name=t.2) \/
 (x.kind=7/\∃t m s,u=[t,m,s]/\zX t.2=yQ/\x.name=t.2/\m.2∈kS/\x.mark=m.2/\((zX s.2=zV/\x.other=[]/\x.num=xH 0 s.2)\/(zX s.2=yQ/\x.other=s.2/\s.2≠[])))
def zCZ(N:List yB)(a:Int)(u:zI):Prop:=0<=a/\a<N.length/\(4<=(qX N a.toNat).kind)/\(∀st,Kp (qX N a.toNat) st=kP u st)/\zCY (qX N a.toNat) u
def zFV(N:List yB)(a:Int):Prop:=0<=a/\a<N.length/\(qX N a.toNat).kind=3/\lf N a<a
def j9(kd:Int)(N:List yB)(a:Int):Prop:=0<=a/\a<N.length/\(qX N a.toNat).kind=kd/\lf N a<a/\rg N a<a
def Jv(u:zI):Prop:=u≠[]/\∀t∈u,tT (zX t.2)
def J9(x:Bs × Int):Bs × Int:=([110,111,116,32]++(if 0<x.2 then Uo x.1 else x.1),0)
def Ci(x y:Bs × Int):Bs × Int:=((if x.2=2 then Uo x.1 else x.1)++[32,97,110,100,32]++(if y.2=2 then Uo y.1 else y.1),1)
def orT(x y:Bs × Int):Bs × Int:=(x.1++[32,111,114,32]++y.1,2)
structure Cl(R:Nat->zI->Bs × Int->List yB->Int->Prop):Prop where
 test:∀k u N a,Jv u->zCZ N a u->R k u (dA u,0) N a
 neg:∀k t u x N a,zX t.2=xF->zFV N a->R 0 u x N (lf N a)->R k (t::u) (J9 x) N a
 br:∀k o u c x N a,zX o.2=yU->zX c.2=vD->R 2 u x N a->R k (o::(u++[c])) x N a
 and:∀k u t v x y N a,1<=k->zX t.2=yL->j9 2 N a->R 1 u x N (lf N a)->R 0 v y N (rg N a)->R k (u++t::v) (Ci x y) N a
 or:∀k u t v x y N a,2<=k->zX t.2=vK->j9 1 N a->R 2 u x N (lf N a)->R 1 v y N (rg N a)->R k (u++t::v) (orT x y) N a
def Gr(k:Nat)(u:zI)(x:Bs × Int)(N:List yB)(a:Int):Prop:=∀R,Cl R->R k u x N a
theorem cJ:Cl Gr:={
 test:=fun k u N a h1 h2 _ c=>c.test k u N a h1 h2
 neg:=fun k t u x N a h1 h2 h _ c=>c.neg k t u x N a h1 h2 (h _ c)
 br:=fun k o u e x N a h1 h2 h _ c=>c.br k o u e x N a h1 h2 (h _ c)
 and:=fun k u t v x y N a h1 h2 h3 h h' _ c=>c.and k u t v x y N a h1 h2 h3 (h _ c) (h' _ c)
 or:=fun k u t v x y N a h1 h2 h3 h h' _ c=>c.or k u t v x y N a h1 h2 h3 (h _ c) (h' _ c) }
theorem Gr.ind{R:Nat->zI->Bs × Int->List yB->Int->Prop}
 (test:∀k u N a,Jv u->zCZ N a u->R k u (dA u,0) N a)
 (neg:∀k t u x N a,zX t.2=xF->zFV N a->Gr 0 u x N (lf N a)->R 0 u x N (lf N a)->R k (t::u) (J9 x) N a)
 (br:∀k o u c x N a,zX o.2=yU->zX c.2=vD->Gr 2 u x N a->R 2 u x N a->R k (o::(u++[c])) x N a)
 (and:∀k u t v x y N a,1<=k->zX t.2=yL->j9 2 N a->Gr 1 u x N (lf N a)->Gr 0 v y N (rg N a)->R 1 u x N (lf N a)->R 0 v y N (rg N a)->R k (u++t::v) (Ci x y) N a)
 (or:∀k u t v x y N a,2<=k->zX t.2=vK->j9 1 N a->Gr 2 u x N (lf N a)->Gr 1 v y N (rg N a)->R 2 u x N (lf N a)->R 1 v y N (rg N a)->R k (u++t::v) (orT x y) N a)
 {k:Nat} {u:zI} {x:Bs × Int} {N:List yB} {a:Int} (h:Gr k u x N a):R k u x N a :=
 (h (fun k u x N a=>Gr k u x N a/\R k u x N a) {
  test:=fun k u N a h1 h2=>⟨cJ.test k u N a h1 h2,test k u N a h1 h2⟩
  neg:=fun k t u x N a h1 h2 h=>⟨cJ.neg k t u x N a h1 h2 h.1,neg k t u x N a h1 h2 h.1 h.2⟩
  br:=fun k o u c x N a h1 h2 h=>⟨cJ.br k o u c x N a h1 h2 h.1,br k o u c x N a h1 h2 h.1 h.2⟩
  and:=fun k u t v x y N a h1 h2 h3 h h'=>⟨cJ.and k u t v x y N a h1 h2 h3 h.1 h'.1,and k u t v x y N a h1 h2 h3 h.1 h'.1 h.2 h'.2⟩
  or:=fun k u t v x y N a h1 h2 h3 h h'=>⟨cJ.or k u t v x y N a h1 h2 h3 h.1 h'.1,or k u t v x y N a h1 h2 h3 h.1 h'.1 h.2 h'.2⟩ }).2
section gr
variable {k:Nat} {u:zI} {x:Bs × Int} {N:List yB} {a:Int}
theorem Gr.le(h:Gr k u x N a){k':Nat}(hk:k<=k'):Gr k' u x N a:=by
 refine Gr.ind (R:=fun k u x N a=>∀k',k<=k'->Gr k' u x N a) ?_ ?_ ?_ ?_ ?_ h k' hk
 ·intro k u N a h1 h2 k' _;exact cJ.test _ _ _ _ h1 h2
 ·intro k t u x N a h1 h2 h3 _ k' _;exact cJ.neg _ _ _ _ _ _ h1 h2 h3
 ·intro k o u c x N a h1 h2 h3 _ k' _;exact cJ.br _ _ _ _ _ _ _ h1 h2 h3
 ·intro k u t v x y N a h1 h2 h3 h4 h5 _ _ k' hk;exact cJ.and _ _ _ _ _ _ _ _ (Nat.le_trans h1 hk) h2 h3 h4 h5
 ·intro k u t v x y N a h1 h2 h3 h4 h5 _ _ k' hk;exact cJ.or _ _ _ _ _ _ _ _ (Nat.le_trans h1 hk) h2 h3 h4 h5
theorem Gr.op(h:Gr k u x N a)(op:Int):Ui u op=op:=by
 refine Gr.ind (R:=fun _ u _ _ _=>∀op,Ui u op=op) ?_ ?_ ?_ ?_ ?_ h op
 ·intro k u N a h1 _ op;exact jw u h1.2 op
 ·intro k t u x N a h1 _ _ ih op;rw[Ui,h1,wM,ih]
 ·intro k o u c x N a h1 h2 _ ih op;rw[Ui,h1,wK,J5,ih,Ui,h2,wH,Ui];omega
 ·intro k u t v x y N a _ h2 _ _ _ ihu ihv op;rw[J5,ihu,Ui,h2,dJ,ihv]
 ·intro k u t v x y N a _ h2 _ _ _ ihu ihv op;rw[J5,ihu,Ui,h2,iE,ihv]
theorem Gr.inner(h:Gr k u x N a)(w:Bs)(hw:w=vK\/w=yL)(i:Nat)(op at':Int)(ho:0<op):uX w u i op at'=at':=by
 refine Gr.ind (R:=fun _ u _ _ _=>∀(i:Nat) (op at':Int),0<op->uX w u i op at'=at') ?_ ?_ ?_ ?_ ?_ h i op at' ho
 ·intro k u N a h1 _ i op at' _;exact tQ w hw u h1.2 i op at'
 ·intro k t u x N a h1 _ _ ih i op at' ho
  rw[uX,h1,wM,if_neg (by intro e;omega),ih _ _ _ ho]
 ·intro k o u c x N a h1 h2 h3 ih i op at' ho
  rw[uX,h1,wK,if_neg (by intro e;omega),kL,ih _ _ _ (by omega),h3.op,uX,h2,wH,if_neg (by intro e;omega),uX]
 ·intro k u t v x y N a _ h2 _ h4 _ ihu ihv i op at' ho
  rw[kL,ihu _ _ _ ho,h4.op,uX,h2,dJ,if_neg (by intro e;omega),ihv _ _ _ ho]
 ·intro k u t v x y N a _ h2 _ h4 _ ihu ihv i op at' ho
  rw[kL,ihu _ _ _ ho,h4.op,uX,h2,iE,if_neg (by intro e;omega),ihv _ _ _ ho]
theorem nH(w:Bs)(hw:w=vK\/w=yL){o c:Nat × Bs}(h1:zX o.2=yU)(h2:zX c.2=vD)(h3:Gr k u x N a)(i:Nat)(at':Int):uX w (o::(u++[c])) i 0 at'=at':=by
 rw[uX,h1,wK,if_neg (by intro e;omega),kL,h3.inner w hw _ _ _ (by omega),h3.op,uX,h2,wH,if_neg,uX];rintro⟨_,e⟩;rcases hw with rfl|rfl
 ·exact absurd e (by decide)
 ·exact absurd e (by decide)
theorem Gr.out0(h:Gr 0 u x N a)(w:Bs)(hw:w=vK\/w=yL)(i:Nat)(at':Int):uX w u i 0 at'=at':=by
 refine Gr.ind (R:=fun k u _ _ _=>k=0->∀(i:Nat) (at':Int),uX w u i 0 at'=at') ?_ ?_ ?_ ?_ ?_ h rfl i at'
 ·intro k u N a h1 _ _ i at';exact tQ w hw u h1.2 i 0 at'
 ·intro k t u x N a h1 _ _ ih _ i at'
  rw[uX,h1,wM,if_neg,ih rfl];rintro⟨_,e⟩;rcases hw with rfl|rfl
  ·exact absurd e (by decide)
  ·exact absurd e (by decide)
 ·intro k o u c x N a h1 h2 h3 _ _ i at';exact nH w hw h1 h2 h3 i at'
 ·intro k u t v x y N a h1 _ _ _ _ _ _ e;omega
 ·intro k u t v x y N a h1 _ _ _ _ _ _ e;omega
theorem Gr.out1(h:Gr k u x N a)(hk:k<=1)(i:Nat)(at':Int):uX vK u i 0 at'=at':=by
 refine Gr.ind (R:=fun k u _ _ _=>k<=1->∀(i:Nat) (at':Int),uX vK u i 0 at'=at') ?_ ?_ ?_ ?_ ?_ h hk i at'
 ·intro k u N a h1 _ _ i at';exact tQ vK (.inl rfl) u h1.2 i 0 at'
 ·intro k t u x N a h1 _ _ ih _ i at'
  rw[uX,h1,wM,if_neg (by rintro⟨_,e⟩;exact absurd e (by decide)),ih (by decide)]
 ·intro k o u c x N a h1 h2 h3 _ _ i at';exact nH vK (.inl rfl) h1 h2 h3 i at'
 ·intro k u t v x y N a _ h2 _ h4 _ ihu ihv _ i at'
  rw[kL,ihu (by decide),h4.op,uX,h2,dJ,if_neg (by rintro⟨_,e⟩;exact absurd e (by decide)),ihv (by decide)]
 ·intro k u t v x y N a h1 _ _ _ _ _ _ e;omega
theorem Gr.pos(h:Gr k u x N a):0<u.length:=by
 refine Gr.ind (R:=fun _ u _ _ _=>0<u.length) ?_ ?_ ?_ ?_ ?_ h
 ·intro k u N a h1 _;exact List.length_pos_iff.2 h1.1
 ·intro k t u x N a _ _ _ _;simp
 ·intro k o u c x N a _ _ _ _;simp
 ·intro k u t v x y N a _ _ _ _ _ _ _;simp only[List.length_append,List.length_cons];omega
 ·intro k u t v x y N a _ _ _ _ _ _ _;simp only[List.length_append,List.length_cons];omega
theorem Gr.bound(h:Gr k u x N a):0<=a/\a<N.length:=by
 refine Gr.ind (R:=fun _ _ _ N a=>0<=a/\a<(N.length:Int)) ?_ ?_ ?_ ?_ ?_ h
 ·intro k u N a _ h;exact⟨h.1,h.2.1⟩
 ·intro k t u x N a _ h _ _;exact⟨h.1,h.2.1⟩
 ·intro k o u c x N a _ _ _ ih;exact ih
 ·intro k u t v x y N a _ _ h _ _ _ _;exact⟨h.1,h.2.1⟩
 ·intro k u t v x y N a _ _ h _ _ _ _;exact⟨h.1,h.2.1⟩
theorem Gr.noEnd(h:Gr k u x N a):∀t∈u,zX t.2≠qH:=by
 refine Gr.ind (R:=fun _ u _ _ _=>∀t∈u,zX t.2≠qH) ?_ ?_ ?_ ?_ ?_ h
 ·intro k u N a h1 _ t ht;exact(h1.2 t ht).2.2.2.2.1
 ·intro k o u x N a h1 _ _ ih t ht
  rcases List.mem_cons.1 ht with rfl|ht
  ·rw[h1];decide
  ·exact ih t ht
 ·intro k o u c x N a h1 h2 _ ih t ht
  rcases List.mem_cons.1 ht with rfl|ht
  ·rw[h1];decide
  ·rcases List.mem_append.1 ht with ht|ht
   ·exact ih t ht
   ·obtain rfl:=List.mem_singleton.1 ht;rw[h2];decide
 ·intro k u o v x y N a _ h2 _ _ _ ihu ihv t ht
  rcases List.mem_append.1 ht with ht|ht
  ·exact ihu t ht
  ·rcases List.mem_cons.1 ht with rfl|ht
   ·rw[h2];decide
   ·exact ihv t ht
 ·intro k u o v x y N a _ h2 _ _ _ ihu ihv t ht
  rcases List.mem_append.1 ht with ht|ht
  ·exact ihu t ht
  ·rcases List.mem_cons.1 ht with rfl|ht
   ·rw[h2];decide
   ·exact ihv t ht
end gr
theorem GR{k:Nat}{u:zI}{x:Bs × Int}{N:List yB}{a:Int}(h:Gr k u x N a)(n:Nat)(hn:u.length<n):pO n u=x/\qD n u=true:=by
 refine Gr.ind (R:=fun _ u x _ _=>∀n,u.length<n->pO n u=x/\qD n u=true) ?_ ?_ ?_ ?_ ?_ h n hn
 ·intro k u N a h _ n hn
  obtain⟨n,rfl⟩:∃m,n=m+1:=⟨n-1,by omega⟩;have e1:yM u vK = -1:=tQ vK (.inl rfl) u h.2 0 0 (-1);have e2:yM u yL = -1:=tQ yL (.inr rfl) u h.2 0 0 (-1)
  have hp:tT (zX (u.getD 0 (0,[])).2):=by
   obtain⟨h1,h2⟩:=h
   cases u with
   | nil=>exact absurd rfl h1
   | cons t r=>exact h2 t (List.mem_cons_self ..)
  have hl:0<u.length:=List.length_pos_iff.2 h.1;rw[pO,qD,e1,e2,if_neg (by omega),if_neg (by omega),if_neg hp.2.2.2.2.2,if_neg hp.2.2.2.1,if_neg (by omega),if_neg (by omega),if_neg hp.2.2.2.2.2,if_neg hp.2.2.2.1];exact⟨rfl,decide_eq_true hl⟩
 ·intro k t u x N a h1 h2 h3 ih n hn
  obtain⟨n,rfl⟩:∃m,n=m+1:=⟨n-1,by omega⟩;have hW:Gr 0 (t::u) (J9 x) N a:=cJ.neg _ _ _ _ _ _ h1 h2 h3;have e1:yM (t::u) vK = -1:=hW.out0 vK (.inl rfl) 0 (-1);have e2:yM (t::u) yL = -1:=hW.out0 yL (.inr rfl) 0 (-1);have hc:zX ((t::u).getD 0 (0,[])).2=xF:=h1;obtain⟨i1,i2⟩:=ih n (by simp at hn;omega);rw[pO,qD,e1,e2,if_neg (by omega),if_neg (by omega),if_pos hc,if_neg (by omega),if_neg (by omega),if_pos hc];simp only[List.drop_succ_cons,List.drop_zero,i1,i2,J9,List.length_cons];exact⟨trivial,by simp⟩
 ·intro k o u c x N a h1 h2 h3 ih n hn
  obtain⟨n,rfl⟩:∃m,n=m+1:=⟨n-1,by omega⟩;have e1:yM (o::(u++[c])) vK = -1:=nH vK (.inl rfl) h1 h2 h3 0 (-1);have e2:yM (o::(u++[c])) yL = -1:=nH yL (.inr rfl) h1 h2 h3 0 (-1);have hc:zX ((o::(u++[c])).getD 0 (0,[])).2=yU:=h1;have hc':¬zX ((o::(u++[c])).getD 0 (0,[])).2=xF:=by rw[hc];decide
  have hp:=h3.pos;obtain⟨i1,i2⟩:=ih n (by simp at hn;omega);rw[pO,qD,e1,e2,if_neg (by omega),if_neg (by omega),if_neg hc',if_pos hc,if_neg (by omega),if_neg (by omega),if_neg hc',if_pos hc];have e3:((o::(u++[c])).drop 1).take ((o::(u++[c])).length-2)=u:=by simp
  rw[e3,i1,i2];refine⟨rfl,?_⟩;simp;omega
 ·intro k u t v x y N a h1 h2 h3 h4 h5 ihu ihv n hn
  obtain⟨n,rfl⟩:∃m,n=m+1:=⟨n-1,by omega⟩;have hW:Gr 1 (u++t::v) (Ci x y) N a:=cJ.and _ _ _ _ _ _ _ _ (Nat.le_refl _) h2 h3 h4 h5;have e1:yM (u++t::v) vK = -1:=hW.out1 (Nat.le_refl _) 0 (-1)
  have e2:yM (u++t::v) yL=u.length:=by
   unfold yM;rw[kL,h4.op,uX,h2,dJ,if_pos ⟨rfl,rfl⟩,h5.out0 yL (.inr rfl)];omega
  obtain⟨x1,x2⟩:=GU (n:=n) e1 e2;have hl:(u++t::v).length=u.length+1+v.length:=by simp;omega
  obtain⟨i1,i2⟩:=ihu n (by omega);obtain⟨j1,j2⟩:=ihv n (by omega);have t1:(u++t::v).take u.length=u:=by simp
  have t2:(u++t::v).drop (u.length+1)=v:=by simp
  rw[t1,t2,i1,j1]at x1;rw[t1,t2,i2,j2]at x2;exact⟨x1,x2⟩
 ·intro k u t v x y N a h1 h2 h3 h4 h5 ihu ihv n hn
  obtain⟨n,rfl⟩:∃m,n=m+1:=⟨n-1,by omega⟩
  have e2:yM (u++t::v) vK=u.length:=by
   unfold yM;rw[kL,h4.op,uX,h2,iE,if_pos ⟨rfl,rfl⟩,h5.out1 (Nat.le_refl _)];omega
  obtain⟨x1,x2⟩:=jt (n:=n) e2;have hl:(u++t::v).length=u.length+1+v.length:=by simp;omega
  obtain⟨i1,i2⟩:=ihu n (by omega);obtain⟨j1,j2⟩:=ihv n (by omega);have t1:(u++t::v).take u.length=u:=by simp
  have t2:(u++t::v).drop (u.length+1)=v:=by simp
  rw[t1,t2,i1,j1]at x1;rw[t1,t2,i2,j2]at x2;exact⟨x1,x2⟩
theorem Y9{N M:List yB}{a:Int}(h:a<N.length):a<((N++M).length:Int):=by simp only[List.length_append];omega
theorem Gr.ext{k:Nat}{u:zI}{x:Bs × Int}{N:List yB}{a:Int}(h:Gr k u x N a)(M:List yB):Gr k u x (N++M) a:=by
 refine Gr.ind (R:=fun k u x N a=>Gr k u x (N++M) a) ?_ ?_ ?_ ?_ ?_ h
 ·intro k u N a h1 h
  have e:qX (N++M) a.toNat=qX N a.toNat:=wU (by have:=h.1;have:=h.2.1;omega);refine cJ.test _ _ _ _ h1 ⟨h.1,Y9 h.2.1,?_⟩;rw[e];exact h.2.2
 ·intro k t u x N a h1 h _ ih
  have e:qX (N++M) a.toNat=qX N a.toNat:=wU (by have:=h.1;have:=h.2.1;omega);have el:lf (N++M) a=lf N a:=by unfold lf;rw[e]
  exact cJ.neg _ _ _ _ _ _ h1 ⟨h.1,Y9 h.2.1,by rw[e];exact h.2.2.1,by rw[el];exact h.2.2.2⟩ (by rw[el];exact ih)
 ·intro k o u c x N a h1 h2 _ ih;exact cJ.br _ _ _ _ _ _ _ h1 h2 ih
 ·intro k u t v x y N a h1 h2 h _ _ ihu ihv
  have e:qX (N++M) a.toNat=qX N a.toNat:=wU (by have:=h.1;have:=h.2.1;omega);have el:lf (N++M) a=lf N a:=by unfold lf;rw[e]
  have er:rg (N++M) a=rg N a:=by unfold rg;rw[e]
  exact cJ.and _ _ _ _ _ _ _ _ h1 h2 ⟨h.1,Y9 h.2.1,by rw[e];exact h.2.2.1,by rw[el];exact h.2.2.2.1,by rw[er];exact h.2.2.2.2⟩ (by rw[el];exact ihu) (by rw[er];exact ihv)
 ·intro k u t v x y N a h1 h2 h _ _ ihu ihv
  have e:qX (N++M) a.toNat=qX N a.toNat:=wU (by have:=h.1;have:=h.2.1;omega);have el:lf (N++M) a=lf N a:=by unfold lf;rw[e]
  have er:rg (N++M) a=rg N a:=by unfold rg;rw[e]
  exact cJ.or _ _ _ _ _ _ _ _ h1 h2 ⟨h.1,Y9 h.2.1,by rw[e];exact h.2.2.1,by rw[el];exact h.2.2.2.1,by rw[er];exact h.2.2.2.2⟩ (by rw[el];exact ihu) (by rw[er];exact ihv)
theorem Gr.kind{k:Nat}{u:zI}{x:Bs × Int}{N:List yB}{a:Int}(h:Gr k u x N a):((qX N a.toNat).kind=1/\x.2=2)\/((qX N a.toNat).kind=2/\x.2=1)\/(¬(qX N a.toNat).kind=1/\¬(qX N a.toNat).kind=2/\x.2=0):=by
 refine Gr.ind (R:=fun _ _ x N a=>((qX N a.toNat).kind=1/\x.2=2)\/((qX N a.toNat).kind=2/\x.2=1)\/(¬(qX N a.toNat).kind=1/\¬(qX N a.toNat).kind=2/\x.2=0)) ?_ ?_ ?_ ?_ ?_ h
 ·intro k u N a _ h;have h3:=h.2.2.1;exact .inr (.inr ⟨by omega,by omega,rfl⟩)
 ·intro k t u x N a _ h _ _;have h3:=h.2.2.1;exact .inr (.inr ⟨by omega,by omega,rfl⟩)
 ·intro k o u c x N a _ _ _ ih;exact ih
 ·intro k u t v x y N a _ _ h _ _ _ _;exact .inr (.inl ⟨h.2.2.1,rfl⟩)
 ·intro k u t v x y N a _ _ h _ _ _ _;exact .inl ⟨h.2.2.1,rfl⟩
theorem C2{k:Nat}{u:zI}{x:Bs × Int}{N:List yB}{a:Int}(hr:Gr k u x N a){f:Nat->fW->fW}(hf:∀st,f a.toNat st=xC x.1 st)(st:fW):C3 N f a.toNat st=xC (if x.2=2 then Uo x.1 else x.1) st:=by
 unfold C3;rcases hr.kind with ⟨h1,h2⟩|⟨h1,h2⟩|⟨h1,_,h2⟩
 ·rw[if_pos h1,if_pos h2,hf,YH]
 ·rw[if_neg (by omega),if_neg (by omega),hf]
 ·rw[if_neg h1,if_neg (by omega),hf]
theorem zDQ{k:Nat}{u:zI}{x:Bs × Int}{N:List yB}{a:Int}(hr:Gr k u x N a){f:Nat->fW->fW}(hf:∀st,f a.toNat st=xC x.1 st)(st:fW):zDR N f a.toNat st=xC (if 0<x.2 then Uo x.1 else x.1) st:=by
 unfold zDR;rcases hr.kind with ⟨h1,h2⟩|⟨h1,h2⟩|⟨h1,h3,h2⟩
 ·rw[if_pos (.inl h1),if_pos (by omega),hf,YH]
 ·rw[if_pos (.inr h1),if_pos (by omega),hf,YH]
 ·rw[if_neg (by omega),if_neg (by omega),hf]
theorem w_gr{k:Nat}{u:zI}{x:Bs × Int}{N:List yB}{a:Int}(h:Gr k u x N a)(m:Nat)(st:fW)(hm:a.toNat<m):nL N m a.toNat st=xC x.1 st:=by
 refine Gr.ind (R:=fun _ _ x N a=>∀(m:Nat) (st:fW),a.toNat<m->nL N m a.toNat st=xC x.1 st) ?_ ?_ ?_ ?_ ?_ h m st hm
 ·intro k u N a hk h m st hm
  obtain⟨m,rfl⟩:∃j,m=j+1:=⟨m-1,by omega⟩;have h3:=h.2.2.1;rw[nL,if_neg (by omega),if_neg (by omega),if_neg (by omega),h.2.2.2.1,oH hk.1]
 ·intro k t u x N a _ h hg ih m st hm
  obtain⟨m,rfl⟩:∃j,m=j+1:=⟨m-1,by omega⟩;have h3:=h.2.2.1;have hb:=hg.bound;have hl:=h.2.2.2;rw[nL,if_neg (by omega),if_neg (by omega),if_pos h3,zDQ hg (fun st=>ih m st (by omega)),<-lG,J9];rfl
 ·intro k o u c x N a _ _ _ ih;exact ih
 ·intro k u t v x y N a _ _ h hu hv ihu ihv m st hm
  obtain⟨m,rfl⟩:∃j,m=j+1:=⟨m-1,by omega⟩;obtain⟨h1,h2,h3,h4,h5⟩:=h;have hb:=hu.bound;have hc:=hv.bound;rw[nL,if_neg (by omega),if_pos h3,C2 hv (fun st=>ihv m st (by omega)),C2 hu (fun st=>ihu m st (by omega)),<-lG,<-lG,Ci];simp[yL]
 ·intro k u t v x y N a _ _ h hu hv ihu ihv m st hm
  obtain⟨m,rfl⟩:∃j,m=j+1:=⟨m-1,by omega⟩;obtain⟨h1,h2,h3,h4,h5⟩:=h;have hb:=hu.bound;have hc:=hv.bound;rw[nL,if_pos h3,ihu m _ (by omega),ihv m _ (by omega),<-lG,<-lG,orT];simp[vK]
theorem Y4{c:UInt8}(h:so c=2):48<=c.toNat/\c.toNat<=57:=by
 unfold so tR at h;split at h
 ·omega
 ·split at h
  ·omega
  ·split at h <;> omega
def Qe:Nat->List Nat->Nat
 | a,[]=>a
 | a,d::r=>Qe (10*a+d) r
def ZE(s:Bs):List Nat:=s.map fun c=>c.toNat-48
theorem Qy(a:Int)(c:UInt8)(r:Bs):xH a (c::r)=xH (10*a+((c.toNat:Int)-48)) r:=rfl
theorem zDA(s:Bs):∀(a:Nat),(∀c∈s,so c=2)->xH a s=Qe a (ZE s):=by
 induction s with
 | nil=>intro a _;rfl
 | cons c r ih =>
   intro a h;have h1:=Y4 (h c (List.mem_cons_self ..));have h2:=ih (10*a+(c.toNat-48)) (fun x hx=>h x (List.mem_cons_of_mem _ hx));unfold ZE at h2 ⊢;rw[Qy,List.map_cons,Qe,<-h2];congr 1;omega
theorem js(s:List Nat):∀(a:Nat),(∀d∈s,d<=9)->Qe a s+1<=(a+1)*10 ^ s.length:=by
 induction s with
 | nil=>intro a _;simp[Qe]
 | cons d r ih =>
   intro a h;have h1:=h d (List.mem_cons_self ..);rw[Qe,List.length_cons,Nat.pow_succ];have h2:=ih (10*a+d) (fun x hx=>h x (List.mem_cons_of_mem _ hx));refine Nat.le_trans h2 ?_;have h3:(10*a+d+1)<=(a+1)*10:=by omega
   have h4:=Nat.mul_le_mul_right (10 ^ r.length) h3;rw[Nat.mul_assoc]at h4;rw[Nat.mul_comm (10 ^ r.length) 10];exact h4
theorem Dc(s:Bs)(h:∀c∈s,so c=2):∀d∈ZE s,d<=9:=by
 intro d hd;unfold ZE at hd;obtain⟨c,hc,rfl⟩:=List.mem_map.1 hd;have h1:=Y4 (h c hc);omega
theorem qd{u d:Nat}(h:1<=u)(hd:d<10):Lib.decDigits (10*u+d)=Lib.decDigits u++[UInt8.ofNat (48+d)]:=by
 rw[Lib.decDigits,dif_neg (by omega),show (10*u+d)/10=u by omega,show (10*u+d)%10=d by omega]
theorem Gp{c:UInt8}(h:48<=c.toNat):UInt8.ofNat (48+(c.toNat-48))=c:=by
 rw[show 48+(c.toNat-48)=c.toNat by omega];simp
theorem zBR(s:List Nat):∀(a:Nat),1<=a->(∀d∈s,d<=9)->Lib.decDigits (Qe a s)=Lib.decDigits a++s.map (fun d=>UInt8.ofNat (48+d)):=by
 induction s with
 | nil=>intro a _ _;simp[Qe]
 | cons d r ih =>
   intro a ha h;have h1:=h d (List.mem_cons_self ..);rw[Qe,ih _ (by omega) (fun x hx=>h x (List.mem_cons_of_mem _ hx)),qd ha (by omega)];simp
theorem FZ(s:Bs)(h:∀c∈s,so c=2):(ZE s).map (fun d=>UInt8.ofNat (48+d))=s:=by
 induction s with
 | nil=>rfl
 | cons c r ih =>
   have h1:=Y4 (h c (List.mem_cons_self ..));have h2:=ih (fun x hx=>h x (List.mem_cons_of_mem _ hx));unfold ZE at h2 ⊢;rw[List.map_cons,List.map_cons,h2,Gp h1.1]
def VU(s:Bs):Prop:=s≠[]/\(so (s.getD 0 0)=2->∀c∈s,so c=2)
theorem Xl{s:Bs}(h:VU s)(hc:zX s=zV):(0<=xH 0 s/\xH 0 s<=9999)/\Lib.itoa (xH 0 s)=s:=by
 have hk:=(mM s).2 hc;unfold vH at hk;split at hk
 ·split at hk
  ·exact absurd hk (by decide)
  ·split at hk <;> exact absurd hk (by decide)
 ·split at hk
  ·rename_i _ h2
   split at hk
   ·exact absurd hk (by decide)
   ·rename_i h3
    have hd:=h.2 h2;have e:=zDA s 0 hd;have hl:=js (ZE s) 0 (Dc s hd);have hln:(ZE s).length=s.length:=by simp[ZE]
    rw[hln]at hl;have h4:s.length<=4:=by omega
    have h5:10 ^ s.length<=10 ^ 4:=Nat.pow_le_pow_right (by decide) h4;refine⟨⟨by rw[show (0:Int)=((0:Nat):Int) from rfl,e];omega,by rw[show (0:Int)=((0:Nat):Int) from rfl,e];omega⟩,?_⟩;rw[show (0:Int)=((0:Nat):Int) from rfl,e,Lib.itoa,if_neg (by omega),Int.toNat_natCast];have hb:=FZ s hd;have hle:=Dc s hd
    cases hs:s with
    | nil=>exact absurd hs h.1
    | cons c r =>
      rw[hs]at hd hb hle h3;have h6:=Y4 (hd c (List.mem_cons_self ..));have ed:ZE (c::r)=(c.toNat-48)::ZE r:=by unfold ZE;rw[List.map_cons]
      rw[ed]at hb hle ⊢;rw[Qe];generalize hz:c.toNat-48=z at hb hle ⊢;by_cases hz0:z=0
      ·have hc0:c=48:=by
        apply UInt8.toNat_inj.1;show c.toNat=48;omega
       have hr:r=[]:=by
        cases r with
        | nil=>rfl
        | cons x y=>exact absurd (Or.inr ⟨by simp,by simpa using hc0⟩) h3
       subst hr;rw[hz0,hc0];show Lib.decDigits 0=[48];rw[Lib.decDigits,dif_pos (by omega)];rfl
      ·rw[zBR (ZE r) _ (by omega) (fun x hx=>hle x (List.mem_cons_of_mem _ hx)),Lib.decDigits,dif_pos (by have:=hle z (List.mem_cons_self ..);omega),show 10*0+z=z by omega]
       rw[List.map_cons]at hb;exact hb
  ·split at hk <;> exact absurd hk (by decide)
theorem D4(k:Int)(l:Bs):∀c∈l.take (jX k l),so c=k:=by
 induction l with
 | nil=>intro c h;simp at h
 | cons x r ih =>
   intro c h;rw[jX]at h;split at h
   ·rename_i hx
    rw[List.take_succ_cons]at h;rcases List.mem_cons.1 h with rfl|h
    ·exact hx
    ·exact ih c h
   ·simp at h
theorem DI(n:Nat):∀(l:Bs) (p:Nat),∀t∈jS n l p,VU t.2:=by
 induction n with
 | zero=>intro l p t h;simp[jS]at h
 | succ n ih =>
   intro l p t h;rw[jS]at h;split at h
   ·simp at h
   ·split at h
    ·exact ih _ _ t h
    ·rename_i h0 _
     rcases List.mem_cons.1 h with rfl|h
     ·cases l with
      | nil=>exact absurd rfl h0
      | cons c r =>
        have hp:=nT (c::r);obtain⟨m,hm⟩:∃m,vX (c::r)=m+1:=⟨vX (c::r)-1,by omega⟩;simp only[hm,List.take_succ_cons];refine⟨by simp,?_⟩;intro hs;have hs':so c=2:=hs
        have e:m=jX 2 r:=by
         unfold vX at hm;simp only[List.getD_cons_zero,hs',List.drop_succ_cons,List.drop_zero]at hm;rw[if_neg (by decide)]at hm;omega
        intro x hx;rcases List.mem_cons.1 hx with rfl|hx
        ·exact hs'
        ·exact D4 2 r x (by rw[<-e];exact hx)
     ·exact ih _ _ t h
def fO(ts:zI):Prop:=∀t∈ts,VU t.2
theorem Qz(l:Bs):fO (zP l 0):=DI _ _ _
theorem fO.at'{ts:zI}(h:fO ts){i:Nat}(hi:i<ts.length):VU (tA ts i):=by
 unfold tA;rw[List.getD,List.getElem?_eq_getElem hi];exact h _ (List.getElem_mem hi)
theorem Gj:∀c∈kS,tT c/\c.isEmpty=false:=by decide
def bE:Bs:=[102,97,99,116]
def Jx:Bs:=[104,97,115]
def zj:Bs:=[116,104,97,110]
def Za:Bs:=[97,108,119,97,121,115]
theorem qf(P:List PT)(i:Nat):vS P (i,true)=([],(i,true)):=by
 unfold vS;split <;> rfl
def zFU(x:yB)(u:zI):Prop:=(4<=x.kind/\x.kind<=7)/\(0<=x.num/\x.num<=9999)/\(∀st,Kp x st=kP u st)/\zCY x u
abbrev TT(ts:zI)(i:Nat):Nat × Bs:=ts.getD i (0,[])
theorem Bl:jI bE=[xF,yU,Za,Jx,yQ]:=by decide
theorem DX:jI Jx=[yQ]:=by decide
theorem Bi:jI zj=[yQ,zV]:=by decide
theorem ju{c:Bs}{op:Int}(h:c∈kS):zT uN c op=zj/\opn c op=op:=by
 simp only[kS,List.mem_cons,List.not_mem_nil,or_false]at h;rcases h with rfl|rfl|rfl|rfl|rfl|rfl <;> exact⟨rfl,rfl⟩
def zCB(ts:zI)(len i:Nat)(op:Int)(r:yB × St):Prop :=
 (r.2.2=true/\FA ts len i bE op=((yP (pp ts len) r.2.1).p:Int)) \/
 (r.2.2=false/\i<r.2.1/\r.2.1<=ts.length/\FA ts len i bE op=FA ts len r.2.1 qB op/\∃u,ts.drop i=u++ts.drop r.2.1/\Jv u/\zFU r.1 u/\rF u (KJ r.1))
theorem iJ:∀c∈kS,c≠yQ/\c≠[104,97,115]:=by decide
theorem wQ{p nx:Bs}(hp:p≠[104,97,115])(h:p∈kS\/nx∈kS):mT p nx=2:=by unfold mT;rw[if_neg hp,if_pos h]
theorem JA{p nx:Bs}(hp:neut p)(h:nx ∉ kS):mT p nx=3:=by unfold mT;rw[if_neg hp.1,if_neg (by rintro(h' | h');exact hp.2 h';exact h h')]
theorem GV{ts:zI}{len i:Nat}(zGN:fO ts)(h:i<=ts.length)(op:Int)(hn:cA ts i≠xF)(ho:cA ts i≠yU):zCB ts len i op (vF (pp ts len) (i,false)):=by
 rcases cU (len:=len) h (t:=Za) (by decide) with ⟨hc,hi,e⟩|⟨hc,e⟩
 ·have hw:=(cP (by decide) hc).2
  have e':vF (pp ts len) (i,false)=(⟨4,0,0,[],[],[],0⟩,(i+1,false)):=by
   unfold Za at e;simp only[vF,e]
  rw[e'];refine .inr ⟨rfl,Nat.lt_succ_self _,hi,uT hi hc rfl (by decide) rfl,[TT ts i],zO ts i hi,⟨by simp,?_⟩,⟨by simp,by simp,?_,.inl ⟨rfl,_,rfl,hc⟩⟩,?_⟩
  ·intro t ht;obtain rfl:=List.mem_singleton.1 ht
   show tT (cA ts i);rw[hc];decide
  ·intro st;show xC _ st=xC (tA ts i) st;rw[hw];rfl
  ·intro p nx _ _
   have h8:zX (TT ts i).2=Za:=hc;rw[qN,h8,if_neg (by decide),qN];rfl
 unfold Za at e;rcases cU (len:=len) h (t:=Jx) (by decide) with ⟨hc2,hi,e2⟩|⟨hc2,e2⟩
 ·have hw:=(cP (by decide) hc2).2
  unfold Jx at e2;have hf:FA ts len i bE op=FA ts len (i+1) Jx op:=uT hi hc2 rfl (by decide) rfl;rcases fG (len:=len) (show i+1<=ts.length from hi) with ⟨hc3,hi3,e3⟩|⟨hc3,e3⟩
  ·have e':vF (pp ts len) (i,false)=(⟨5,0,0,tA ts (i+1),[],[],0⟩,(i+1+1,false)):=by
    simp only[vF,e,e2,e3]
   rw[e'];refine .inr ⟨rfl,(by show i<i+1+1;omega),hi3,hf.trans (uT hi3 hc3 rfl (by decide) rfl),[TT ts i,TT ts (i+1)],?_,⟨by simp,?_⟩,⟨by simp,by simp,?_,.inr (.inl ⟨rfl,_,_,rfl,hc2,hc3,rfl⟩)⟩,?_⟩
   ·rw[zO ts i hi,zO ts (i+1) hi3];rfl
   ·intro t ht
    simp only[List.mem_cons,List.not_mem_nil,or_false]at ht;rcases ht with rfl|rfl
    ·show tT (cA ts i);rw[hc2];decide
    ·show tT (cA ts (i+1));rw[hc3];decide
   ·intro st;show xC _ (xC _ st)=xC (tA ts (i+1)) (xC (tA ts i) st);rw[hw];rfl
   ·intro p nx _ _
    have h8:zX (TT ts i).2=Jx:=hc2;have h9:zX (TT ts (i+1)).2=yQ:=hc3;rw[qN,h8,if_neg (by decide),qN,h9,if_pos rfl,qN];show []++([(mT Jx nx,tA ts (i+1))]++[])=_;rw[show mT Jx nx=1 from if_pos rfl];rfl
  ·have e':(vF (pp ts len) (i,false)).2=(i+1,true):=by
    simp only[vF,e,e2,e3]
   refine .inl ⟨by rw[e'],?_⟩;rw[e',hf];exact nK hi (mS (by decide) (by decide) (by rw[DX];simpa using hc3)) (.inr (by decide))
 unfold Jx at e2;rcases fG (len:=len) h with ⟨hc3,hi3,e3⟩|⟨hc3,e3⟩
 ·have hf:FA ts len i bE op=FA ts len (i+1) uN op:=uT hi3 hc3 rfl (by decide) rfl
  rcases zEI (len:=len) (show i+1<=ts.length from hi3) with ⟨hc4,hi4,hw4,e4⟩|⟨hc4,e4⟩
  ·obtain⟨n1,n2⟩:=ju (op:=op) hc4
   obtain⟨q1,q2⟩:=Gj _ hc4;have hf2:FA ts len i bE op=FA ts len (i+1+1) zj op:=hf.trans (uT hi4 rfl n1 (by decide) n2);have hi5:i+1+1<=ts.length:=hi4;rcases wN (len:=len) hi5 with ⟨hc6,hi6,e6⟩|⟨hc6,e6⟩
   ·have e5:=YC (len:=len) hi5 false
    rw[decide_eq_true hc6]at e5
    have e':vF (pp ts len) (i,false)=(⟨7,0,0,tA ts i,cA ts (i+1),[],xH 0 (tA ts (i+1+1))⟩,(i+1+1+1,false)):=by
     simp only[vF,e,e2,e3,e4,q2,e5,e6]
    obtain⟨v1,v2⟩:=Xl (zGN.at' hi6) hc6;rw[e'];refine .inr ⟨rfl,(by show i<i+1+1+1;omega),hi6,hf2.trans (uT hi6 hc6 rfl (by decide) rfl),[TT ts i,TT ts (i+1),TT ts (i+1+1)],?_,⟨by simp,?_⟩,⟨by simp,v1,?_,.inr (.inr (.inr ⟨rfl,_,_,_,rfl,hc3,rfl,(by show tA ts (i+1)∈kS;rw[hw4];exact hc4),hw4.symm,.inl ⟨hc6,rfl,rfl⟩⟩))⟩,?_⟩
    ·rw[zO ts i hi3,zO ts (i+1) hi4,zO ts (i+1+1) hi6];rfl
    ·intro t ht
     simp only[List.mem_cons,List.not_mem_nil,or_false]at ht;rcases ht with rfl|rfl|rfl
     ·show tT (cA ts i);rw[hc3];decide
     ·exact q1
     ·show tT (cA ts (i+1+1));rw[hc6];decide
    ·intro st
     show eT (xH 0 (tA ts (i+1+1))) (xC (cA ts (i+1)) (xC (tA ts i) st))=xC (tA ts (i+1+1)) (xC (tA ts (i+1)) (xC (tA ts i) st));rw[eT,v2,hw4]
    ·intro p nx hp _
     have h7:zX (TT ts i).2=yQ:=hc3;have h8:zX (TT ts (i+1)).2≠yQ:=(iJ _ hc4).1;have h9:zX (TT ts (i+1+1)).2=zV:=hc6;rw[qN,h7,if_pos rfl,qN,if_neg h8,qN,h9,if_neg (by decide),qN];show [(mT p (cA ts (i+1)),tA ts i)]++([]++([]++[]))=_;rw[wQ hp.1 (.inr hc4)];rfl
   ·have e5:=YC (len:=len) hi5 false
    rw[decide_eq_false hc6]at e5;rcases fG (len:=len) hi5 with ⟨hc7,hi7,e7⟩|⟨hc7,e7⟩
    ·have e':vF (pp ts len) (i,false)=(⟨7,0,0,tA ts i,cA ts (i+1),tA ts (i+1+1),0⟩,(i+1+1+1,false)):=by
      simp only[vF,e,e2,e3,e4,q2,e5,e7]
     have zG8:(tA ts (i+1+1)).isEmpty=false:=by
      have:=(zGN.at' hi7).1
      cases hx:tA ts (i+1+1) with
      | nil=>exact absurd hx this
      | cons a b=>rfl
     rw[e'];refine .inr ⟨rfl,(by show i<i+1+1+1;omega),hi7,hf2.trans (uT hi7 hc7 rfl (by decide) rfl),[TT ts i,TT ts (i+1),TT ts (i+1+1)],?_,⟨by simp,?_⟩,⟨by simp,by simp,?_,.inr (.inr (.inr ⟨rfl,_,_,_,rfl,hc3,rfl,(by show tA ts (i+1)∈kS;rw[hw4];exact hc4),hw4.symm,.inr ⟨hc7,rfl,(zGN.at' hi7).1⟩⟩))⟩,?_⟩
     ·rw[zO ts i hi3,zO ts (i+1) hi4,zO ts (i+1+1) hi7];rfl
     ·intro t ht
      simp only[List.mem_cons,List.not_mem_nil,or_false]at ht;rcases ht with rfl|rfl|rfl
      ·show tT (cA ts i);rw[hc3];decide
      ·exact q1
      ·show tT (cA ts (i+1+1));rw[hc7];decide
     ·intro st
      show Kp ⟨7,0,0,tA ts i,cA ts (i+1),tA ts (i+1+1),0⟩ st=xC (tA ts (i+1+1)) (xC (tA ts (i+1)) (xC (tA ts i) st));rw[hw4];unfold Kp;simp only[zG8];rfl
     ·intro p nx hp _
      have h7:zX (TT ts i).2=yQ:=hc3;have h8:zX (TT ts (i+1)).2≠yQ:=(iJ _ hc4).1;have h9:zX (TT ts (i+1+1)).2=yQ:=hc7;rw[qN,h7,if_pos rfl,qN,if_neg h8,qN,h9,if_pos rfl,qN];show [(mT p (cA ts (i+1)),tA ts i)]++([]++([(mT (cA ts (i+1)) nx,tA ts (i+1+1))]++[]))=(2,tA ts i)::(if tA ts (i+1+1)=[] then [] else [(2,tA ts (i+1+1))]);rw[wQ hp.1 (.inr hc4),wQ (iJ _ hc4).2 (.inl hc4),if_neg (zGN.at' hi7).1];rfl
    ·have e':(vF (pp ts len) (i,false)).2=(i+1+1,true):=by
      simp only[vF,e,e2,e3,e4,q2,e5,e7]
     refine .inl ⟨by rw[e'],?_⟩;rw[e',hf2];exact nK hi5 (mS (by decide) (by decide) (by rw[Bi];simp[hc6,hc7])) (.inr (by decide))
  ·have e':vF (pp ts len) (i,false)=(⟨6,0,0,tA ts i,[],[],0⟩,(i+1,false)):=by
    simp only[vF,e,e2,e3,e4,List.isEmpty_nil]
   rw[e'];refine .inr ⟨rfl,Nat.lt_succ_self _,hi3,hf.trans (j8 hc4),[TT ts i],zO ts i hi3,⟨by simp,?_⟩,⟨by simp,by simp,?_,.inr (.inr (.inl ⟨rfl,_,rfl,hc3,rfl⟩))⟩,?_⟩
   ·intro t ht;obtain rfl:=List.mem_singleton.1 ht
    show tT (cA ts i);rw[hc3];decide
   ·intro st;rfl
   ·intro p nx hp hx
    have h7:zX (TT ts i).2=yQ:=hc3;rw[qN,h7,if_pos rfl,qN];show [(mT p nx,tA ts i)]++[]=_;rw[JA hp hx];rfl
 ·have e':(vF (pp ts len) (i,false)).2=(i,true):=by
   simp only[vF,e,e2,e3,qf,List.isEmpty_nil]
  refine .inl ⟨by rw[e'],?_⟩;rw[e'];exact nK h (mS (by decide) (by decide) (by rw[Bl];simp[hn,ho,hc,hc2,hc3])) (.inr (by decide))
theorem wT(N:List yB)(z:yB):qX (N++[z]) N.length=z:=by
 unfold qX;simp[List.getD]
def Bb(z:yB)(a:Int):Prop :=
 (z.kind=1->0<=z.left/\z.left<a/\0<=z.right/\z.right<a) /\
 (z.kind=2->0<=z.left/\z.left<a/\0<=z.right/\z.right<a) /\
 (z.kind=3->0<=z.left/\z.left<a) /\
 (¬z.kind=1->¬z.kind=2->¬z.kind=3->(4<=z.kind/\z.kind<=7)/\0<=z.num/\z.num<=9999)
theorem dG.add{N:List yB}{z:yB}(h:dG N)(hz:Bb z N.length):dG (N++[z]):=by
 intro a ha;rcases Nat.lt_or_ge a N.length with h1|h1
 ·rw[wU h1];exact h a h1
 ·have e:a=N.length:=by rw[List.length_append,List.length_singleton]at ha;omega
  subst e;rw[wT];exact hz
theorem aS:dG []:=by intro a ha;exact absurd ha (by simp)
def eE(u:zI)(y:Int × Int):Prop:=∀n,u.length<n->yG n u=y
theorem jj{u:zI}(h:Jv u):eE u (1,0):=by
 intro n hn;obtain⟨n,rfl⟩:∃m,n=m+1:=⟨n-1,by omega⟩;have e1:yM u vK = -1:=tQ vK (.inl rfl) u h.2 0 0 (-1);have e2:yM u yL = -1:=tQ yL (.inr rfl) u h.2 0 0 (-1)
 have hp:tT (zX (u.getD 0 (0,[])).2):=by
  obtain⟨h1,h2⟩:=h
  cases u with
  | nil=>exact absurd rfl h1
  | cons t r=>exact h2 t (List.mem_cons_self ..)
 rw[yG,e1,e2,if_neg (by omega),if_neg (by omega),if_neg hp.2.2.2.2.2,if_neg hp.2.2.2.1]
theorem zD4{t:Nat × Bs}{u:zI}{x:Bs × Int}{N:List yB}{a:Int}{y:Int × Int}(h1:zX t.2=xF)(hW:Gr 0 (t::u) x N a)(hy:eE u y):eE (t::u) (y.1,y.2+1):=by
 intro n hn;obtain⟨n,rfl⟩:∃m,n=m+1:=⟨n-1,by omega⟩;have e1:yM (t::u) vK = -1:=hW.out0 vK (.inl rfl) 0 (-1);have e2:yM (t::u) yL = -1:=hW.out0 yL (.inr rfl) 0 (-1);have hc:zX ((t::u).getD 0 (0,[])).2=xF:=h1;rw[yG,e1,e2,if_neg (by omega),if_neg (by omega),if_pos hc];simp only[List.drop_succ_cons,List.drop_zero,hy n (by simp at hn;omega)]
theorem zFE{o c:Nat × Bs}{u:zI}{x:Bs × Int}{N:List yB}{a:Int}{k:Nat}{y:Int × Int}(h1:zX o.2=yU)(h2:zX c.2=vD)(h3:Gr k u x N a)(hy:eE u y):eE (o::(u++[c])) (y.1,y.2+1):=by
 intro n hn;obtain⟨n,rfl⟩:∃m,n=m+1:=⟨n-1,by omega⟩;have e1:yM (o::(u++[c])) vK = -1:=nH vK (.inl rfl) h1 h2 h3 0 (-1);have e2:yM (o::(u++[c])) yL = -1:=nH yL (.inr rfl) h1 h2 h3 0 (-1);have hc:zX ((o::(u++[c])).getD 0 (0,[])).2=yU:=h1;have hc':¬zX ((o::(u++[c])).getD 0 (0,[])).2=xF:=by rw[hc];decide
 rw[yG,e1,e2,if_neg (by omega),if_neg (by omega),if_neg hc',if_pos hc];have e3:((o::(u++[c])).drop 1).take ((o::(u++[c])).length-2)=u:=by simp
 rw[e3,hy n (by simp at hn;omega)]
theorem zD5{u v:zI}{t:Nat × Bs}{x y:Bs × Int}{N:List yB}{a b:Int}{p q:Int × Int}(h2:zX t.2=yL)(h4:Gr 1 u x N a)(h5:Gr 0 v y N b)(hp:eE u p)(hq:eE v q):eE (u++t::v) (pK p q):=by
 intro n hn;obtain⟨n,rfl⟩:∃m,n=m+1:=⟨n-1,by omega⟩
 have e1:yM (u++t::v) vK = -1:=by
  unfold yM;rw[kL,h4.op,uX,h2,dJ,if_neg (by rintro⟨_,h⟩;exact absurd h (by decide)),h5.out1 (by decide),h4.out1 (Nat.le_refl _)]
 have e2:yM (u++t::v) yL=u.length:=by
  unfold yM;rw[kL,h4.op,uX,h2,dJ,if_pos ⟨rfl,rfl⟩,h5.out0 yL (.inr rfl)];omega
 have hl:(u++t::v).length=u.length+1+v.length:=by simp;omega
 have t1:(u++t::v).take u.length=u:=by simp
 have t2:(u++t::v).drop (u.length+1)=v:=by simp
 rw[yG,e1,e2,if_neg (by omega),if_pos (Int.natCast_nonneg _),Int.toNat_natCast,t1,t2,hp n (by omega),hq n (by omega)]
theorem zFD{u v:zI}{t:Nat × Bs}{x y:Bs × Int}{N:List yB}{a b:Int}{p q:Int × Int}(h2:zX t.2=vK)(h4:Gr 2 u x N a)(h5:Gr 1 v y N b)(hp:eE u p)(hq:eE v q):eE (u++t::v) (pK p q):=by
 intro n hn;obtain⟨n,rfl⟩:∃m,n=m+1:=⟨n-1,by omega⟩
 have e2:yM (u++t::v) vK=u.length:=by
  unfold yM;rw[kL,h4.op,uX,h2,iE,if_pos ⟨rfl,rfl⟩,h5.out1 (Nat.le_refl _)];omega
 have hl:(u++t::v).length=u.length+1+v.length:=by simp;omega
 have t1:(u++t::v).take u.length=u:=by simp
 have t2:(u++t::v).drop (u.length+1)=v:=by simp
 rw[yG,e2,if_pos (Int.natCast_nonneg _),Int.toNat_natCast,t1,t2,hp n (by omega),hq n (by omega)]
def Wt(q:GS)(d:Int)(q':GS)(u:zI):Prop :=
 ∃y L,eE u y/\0<=y.2/\q'.tests=q.tests+y.1/\(q.dep<=q'.dep/\d+y.2<=q'.dep/\(q'.dep=q.dep\/q'.dep=d+y.2))/\rF u L/\jV q'.nd=jV q.nd++L
def Ug(ts:zI)(len k i:Nat)(op d:Int)(q:GS)(r:Int × GS):Prop :=
 (r.2.s.2=true/\FA ts len i bE op=((yP (pp ts len) r.2.s.1).p:Int)) \/
 (r.2.s.2=false/\i<r.2.s.1/\r.2.s.1<=ts.length/\FA ts len i bE op=FA ts len r.2.s.1 qB op/\(∃M,r.2.nd=q.nd++M)/\dG r.2.nd /\
  (1<=k->cA ts r.2.s.1≠yL)/\(2<=k->cA ts r.2.s.1≠vK) /\
  ∃u x,Gr k u x r.2.nd r.1/\ts.drop i=u++ts.drop r.2.s.1/\Wt q d r.2 u)
theorem mU(P:List PT)(item:GS->Int × GS)(tok:Bs)(kind:Int)(k:Nat)(left:Int)(q:GS)(h:q.s.2=true):(mV P item tok kind k left q).2.s=q.s:=by
 cases k with
 | zero=>rfl
 | succ k =>
   obtain⟨⟨i,f⟩,nd,te,de⟩:=q;obtain rfl:f=true:=h;rw[mV];rfl
structure j6(tok:Bs)(kind:Int)(j:Nat):Prop where
 kw:tok∈jg
 next:∀op,zT qB tok op=bE
 opn:∀op,opn tok op=op
 node:∀a l r,0<=l->l<a->0<=r->r<a->Bb ⟨kind,l,r,[],[],[],0⟩ a
 make:∀N u t v x y l r,zX t.2=tok->l<(N.length:Int)->r<(N.length:Int)->Gr (j+1) u x (N++[⟨kind,l,r,[],[],[],0⟩]) l->Gr j v y (N++[⟨kind,l,r,[],[],[],0⟩]) r ->
  ∃z,Gr (j+1) (u++t::v) z (N++[⟨kind,l,r,[],[],[],0⟩]) N.length
 wt:∀u t v x y N a b p q,zX t.2=tok->Gr (j+1) u x N a->Gr j v y N b->eE u p->eE v q->eE (u++t::v) (pK p q)
 neut:tok≠yQ/\neut tok
 kind:kind=1\/kind=2
 exits:∀c,c≠tok->(1<=j->c≠yL)->(1<=j+1->c≠yL)/\(2<=j+1->c≠vK)
theorem VJ(kind l r:Int)(N:List yB)(hl:l<(N.length:Int))(hr:r<(N.length:Int)):j9 kind (N++[⟨kind,l,r,[],[],[],0⟩]) N.length/\lf (N++[⟨kind,l,r,[],[],[],0⟩]) N.length=l/\rg (N++[⟨kind,l,r,[],[],[],0⟩]) N.length=r:=by
 have e:qX (N++[⟨kind,l,r,[],[],[],0⟩]) (N.length:Int).toNat=⟨kind,l,r,[],[],[],0⟩:=by rw[Int.toNat_natCast];exact wT _ _
 have el:lf (N++[⟨kind,l,r,[],[],[],0⟩]) N.length=l:=by unfold lf;rw[e]
 have er:rg (N++[⟨kind,l,r,[],[],[],0⟩]) N.length=r:=by unfold rg;rw[e]
 exact⟨⟨by omega,by simp only[List.length_append,List.length_singleton];omega,by rw[e],by rw[el];exact hl,by rw[er];exact hr⟩,el,er⟩
theorem F4:j6 yL 2 0:={
 kw:=by decide
 next:=fun op=>by rw[aO,if_neg (by rintro(⟨h,_⟩|⟨h,_⟩) <;> exact absurd h (by decide))];decide
 opn:=dJ
 node:=fun a l r h1 h2 h3 h4=>⟨fun e=>absurd (show (2:Int)=1 from e) (by decide),fun _=>⟨h1,h2,h3,h4⟩,fun e=>absurd (show (2:Int)=3 from e) (by decide),fun _ e=>absurd rfl e⟩
 make:=fun N u t v x y l r hc hl hr h1 h2=>by
  obtain⟨hb,el,er⟩:=VJ 2 l r N hl hr;exact⟨Ci x y,cJ.and _ _ _ _ _ _ _ _ (Nat.le_refl _) hc hb (by rw[el];exact h1) (by rw[er];exact h2)⟩
 wt:=fun u t v x y N a b p q h1 h2 h3=>zD5 h1 h2 h3
 neut:=⟨by decide,by decide,by decide⟩
 kind:=.inr rfl
 exits:=fun c h _=>⟨fun _=>h,fun h=>absurd h (by decide)⟩ }
theorem vy:j6 vK 1 1:={
 kw:=by decide
 next:=fun op=>by rw[aO,if_neg (by rintro(⟨h,_⟩|⟨h,_⟩) <;> exact absurd h (by decide))];decide
 opn:=iE
 node:=fun a l r h1 h2 h3 h4=>⟨fun _=>⟨h1,h2,h3,h4⟩,fun e=>absurd (show (1:Int)=2 from e) (by decide),fun e=>absurd (show (1:Int)=3 from e) (by decide),fun e=>absurd rfl e⟩
 make:=fun N u t v x y l r hc hl hr h1 h2=>by
  obtain⟨hb,el,er⟩:=VJ 1 l r N hl hr;exact⟨orT x y,cJ.or _ _ _ _ _ _ _ _ (Nat.le_refl _) hc hb (by rw[el];exact h1) (by rw[er];exact h2)⟩
 wt:=fun u t v x y N a b p q h1 h2 h3=>zFD h1 h2 h3
 neut:=⟨by decide,by decide,by decide⟩
 kind:=.inl rfl
 exits:=fun c h h2=>⟨fun _=>h2 (by decide),fun _=>h⟩ }
theorem KU{ts:zI}{len n j i:Nat}{op d:Int}{q0:GS}{tok:Bs}{kind:Int}{item:GS->Int × GS}(J:j6 tok kind j)
 (hitem:∀(q:GS) (i:Nat),q.s=(i,false)->i<=ts.length->ts.length+1-i<=n->dG q.nd->Ug ts len j i op d q (item q)) (k:Nat) :
 ∀(left:Int) (q:GS) (i':Nat) (u:zI) (x:Bs × Int),q.s=(i',false)->i<i'->i'<=ts.length->ts.length+1-i'<=n->ts.length+1-i'<=k->FA ts len i bE op=FA ts len i' qB op->(∃M,q.nd=q0.nd++M)->dG q.nd ->
  (1<=j->cA ts i'≠yL)->Gr (j+1) u x q.nd left->ts.drop i=u++ts.drop i'->Wt q0 d q u->Ug ts len (j+1) i op d q0 (mV (pp ts len) item tok kind k left q):=by
 induction k with
 | zero=>intro left q i' u x _ _ h1 _ h2;omega
 | succ k ih =>
   intro left q i' u x hq zFZ hle hn hk hf hM hg hx1 hr hd hwt;rw[mV,hq];rcases cU (len:=len) hle J.kw with ⟨hc,hi,e⟩|⟨hc,e⟩
   ·rw[e]
    simp only;have hf2:FA ts len i bE op=FA ts len (i'+1) bE op:=hf.trans (uT hi hc (J.next op) (by decide) (J.opn op));have hI:=hitem (q.to (i'+1,false)) (i'+1) rfl hi (by omega) hg;generalize item (q.to (i'+1,false))=r at hI ⊢;rcases hI with ⟨h1,h2⟩|⟨h1,h2,h3,h4,⟨M,h5⟩,h6,h7,h8,v,y,h9,h10,h11⟩
    ·obtain⟨a,⟨⟨s1,s2⟩,nd,te,de⟩⟩:=r
     simp only at h1;subst h1;refine .inl ⟨?_,?_⟩
     ·rw[mU _ _ _ _ _ _ _ rfl];rfl
     ·rw[mU _ _ _ _ _ _ _ rfl,hf2];exact h2
    ·obtain⟨M0,hM⟩:=hM
     obtain⟨a,⟨⟨s1,s2⟩,nd,te,de⟩⟩:=r;simp only[GS.to]at h1 h2 h3 h4 h5 h6 h7 h8 h9 h10;subst h1;have bl:=(hr.ext M).bound;rw[<-h5]at bl;have br:=h9.bound
     have rl:Gr (j+1) u x (nd++[⟨kind,left,a,[],[],[],0⟩]) left:=by
      have:=hr.ext (M++[⟨kind,left,a,[],[],[],0⟩]);rw[<-List.append_assoc,<-h5]at this;exact this
     obtain⟨z,hz⟩:=J.make nd u (TT ts i') v x y left a hc bl.2 br.2 rl (h9.ext _);refine ih _ _ s1 (u++TT ts i'::v) z rfl (by omega) h3 (by omega) (by omega) (hf2.trans h4) ⟨M0++M++[⟨kind,left,a,[],[],[],0⟩],?_⟩ ?_ h7 hz ?_ ?_
     ·show nd++[_]=_
      rw[h5,hM];simp
     ·exact dG.add h6 (J.node _ _ _ bl.1 bl.2 br.1 br.2)
     ·rw[hd,zO ts i' hi,h10];simp
     ·obtain⟨y1,L1,w1,w2,w3,w4,w5,w6⟩:=hwt
      obtain⟨y2,L2,v1,v2,v3,v4,v5,v6⟩:=h11;have hcls:zX (TT ts i').2=tok:=hc;refine⟨pK y1 y2,L1++L2,J.wt _ _ _ _ _ _ _ _ _ _ hc rl (h9.ext _) w1 v1,?_,?_,?_,w5.join v5 (by rw[hcls];exact J.neut.1) (by rw[hcls];exact J.neut.2),?_⟩
      ·simp only[pK];split <;> omega
      ·simp only[GS.to]at v3
       show te=q0.tests+(y1.1+y2.1);omega
      ·simp only[GS.to]at v4
       show q0.dep<=de/\d+(pK y1 y2).2<=de/\(de=q0.dep\/de=d+(pK y1 y2).2);simp only[pK];split <;> omega
      ·simp only[GS.to]at v6
       show jV (nd++[_])=_;have e9:jV [⟨kind,left,a,[],[],[],0⟩]=[]:=by rcases J.kind with rfl|rfl <;> rfl
       rw[iG,e9,List.append_nil,v6,w6,List.append_assoc]
   ·rw[e]
    simp only;obtain⟨e1,e2⟩:=J.exits (cA ts i') hc hx1;exact .inr ⟨rfl,zFZ,hle,hf,hM,hg,e1,e2,u,x,hr,hd,hwt⟩
theorem Q1{ts:zI}{len n:Nat}{op d:Int}{fact:GS->Int->Int × GS}
 (hitem:∀(q:GS) (i:Nat),q.s=(i,false)->i<=ts.length->ts.length+1-i<=n->dG q.nd->Ug ts len 0 i op d q (fact q d))
 (q:GS) (i:Nat) (hq:q.s=(i,false)) (hi:i<=ts.length) (hn:ts.length+1-i<=n) (hg:dG q.nd):Ug ts len 1 i op d q (mI (pp ts len) fact q d):=by
 unfold mI;have hI:=hitem q i hq hi hn hg;generalize fact q d=r at hI ⊢;obtain⟨a,⟨⟨s1,s2⟩,nd,te,de⟩⟩:=r;rcases hI with ⟨h1,h2⟩|⟨h1,h2,h3,h4,h5,h6,h7,h8,v,y,h9,h10,h11⟩
 ·simp only at h1
  subst h1;refine .inl ⟨?_,?_⟩
  ·rw[mU _ _ _ _ _ _ _ rfl]
  ·rw[mU _ _ _ _ _ _ _ rfl];exact h2
 ·simp only at h1 h2 h3 h4 h5 h6 h7 h8 h9 h10
  subst h1;exact KU F4 hitem (pp ts len).length a ⟨(s1,false),nd,te,de⟩ s1 v y rfl h2 h3 (by omega) (by rw[eY];omega) h4 h5 h6 (fun h=>absurd h (by decide)) (h9.le (by decide)) h10 h11
theorem De{ts:zI}{len n:Nat}{op d:Int}{fact:GS->Int->Int × GS}
 (hitem:∀(q:GS) (i:Nat),q.s=(i,false)->i<=ts.length->ts.length+1-i<=n->dG q.nd->Ug ts len 0 i op d q (fact q d))
 (q:GS) (i:Nat) (hq:q.s=(i,false)) (hi:i<=ts.length) (hn:ts.length+1-i<=n) (hg:dG q.nd):Ug ts len 2 i op d q (eD (pp ts len) fact q d):=by
 unfold eD;have hI:=Q1 hitem q i hq hi hn hg;generalize mI (pp ts len) fact q d=r at hI ⊢;obtain⟨a,⟨⟨s1,s2⟩,nd,te,de⟩⟩:=r;rcases hI with ⟨h1,h2⟩|⟨h1,h2,h3,h4,h5,h6,h7,h8,v,y,h9,h10,h11⟩
 ·simp only at h1
  subst h1;refine .inl ⟨?_,?_⟩
  ·rw[mU _ _ _ _ _ _ _ rfl]
  ·rw[mU _ _ _ _ _ _ _ rfl];exact h2
 ·simp only at h1 h2 h3 h4 h5 h6 h7 h8 h9 h10
  subst h1;exact KU vy (fun q i=>Q1 hitem q i) (pp ts len).length a ⟨(s1,false),nd,te,de⟩ s1 v y rfl h2 h3 (by omega) (by rw[eY];omega) h4 h5 h6 (fun _=>h7 (by decide)) (h9.le (by decide)) h10 h11
theorem uw{ts:zI}{len:Nat}(zGN:fO ts)(n:Nat):∀(op d:Int),0<=op->∀(q:GS) (i:Nat),q.s=(i,false)->i<=ts.length->ts.length+1-i<=n->dG q.nd->Ug ts len 0 i op d q (xK (pp ts len) n q d):=by
 induction n with
 | zero=>intro op d _ q i _ h1 h2;omega
 | succ n ih =>
   intro op d zGS q i hq hi hn hg;rw[xK,hq];rcases cU (len:=len) hi (t:=xF) (by decide) with ⟨hc,zFZ,e⟩|⟨hc,e⟩
   ·rw[e]
    simp only;have hf:FA ts len i bE op=FA ts len (i+1) bE op:=uT zFZ hc rfl (by decide) (wM op);have hI:=ih op (d+1) zGS (q.to (i+1,false)) (i+1) rfl zFZ (by omega) hg;generalize xK (pp ts len) n (q.to (i+1,false)) (d+1)=r at hI ⊢;rcases hI with ⟨h1,h2⟩|⟨h1,h2,h3,h4,⟨M,h5⟩,h6,h7,h8,v,y,h9,h10,h11⟩
    ·exact .inl ⟨h1,by rw[hf];exact h2⟩
    ·obtain⟨a,⟨⟨s1,s2⟩,nd,te,de⟩⟩:=r
     simp only[GS.to]at h1 h2 h3 h4 h5 h6 h7 h8 h9 h10;subst h1;have br:=h9.bound;have en:qX (nd++[⟨3,a,0,[],[],[],0⟩]) (nd.length:Int).toNat=⟨3,a,0,[],[],[],0⟩:=by rw[Int.toNat_natCast];exact wT _ _
     have el:lf (nd++[⟨3,a,0,[],[],[],0⟩]) nd.length=a:=by unfold lf;rw[en]
     have hgr:Gr 0 (TT ts i::v) (J9 y) (nd++[⟨3,a,0,[],[],[],0⟩]) (nd.length:Int):=by
      refine cJ.neg _ _ _ _ _ _ hc ⟨by omega,by simp only[List.length_append,List.length_singleton];omega,by rw[en],by rw[el];exact br.2⟩ ?_;rw[el];exact h9.ext _
     have hcls:zX (TT ts i).2=xF:=hc;refine .inr ⟨rfl,(by show i<s1;omega),h3,hf.trans h4,⟨M++[⟨3,a,0,[],[],[],0⟩],?_⟩,?_,fun h=>absurd h (by decide),fun h=>absurd h (by decide),TT ts i::v,J9 y,hgr,?_,?_⟩
     ·show nd++[_]=_
      rw[h5];simp
     ·exact dG.add h6 ⟨fun e=>absurd (show (3:Int)=1 from e) (by decide),fun e=>absurd (show (3:Int)=2 from e) (by decide),fun _=>br,fun _ _ e=>absurd rfl e⟩
     ·show ts.drop i=(TT ts i::v)++ts.drop s1
      rw[zO ts i zFZ,h10];rfl
     ·obtain⟨y2,L2,v1,v2,v3,v4,v5,v6⟩:=h11
      simp only[GS.to]at v3 v4 v6;refine⟨(y2.1,y2.2+1),L2,zD4 hc hgr v1,by simp only;omega,v3,?_,v5.ahead (by rw[hcls];decide) (by rw[hcls];exact⟨by decide,by decide⟩),?_⟩
      ·show q.dep<=de/\d+(y2.2+1)<=de/\(de=q.dep\/de=d+(y2.2+1))
       omega
      ·show jV (nd++[_])=_
       rw[iG,v6,show jV [⟨3,a,0,[],[],[],0⟩]=[] from rfl,List.append_nil]
   rw[e];simp only;rcases cU (len:=len) hi (t:=yU) (by decide) with ⟨hc2,zFZ,e2⟩|⟨hc2,e2⟩
   ·rw[e2]
    simp only;have hf:FA ts len i bE op=FA ts len (i+1) bE (op+1):=uT zFZ hc2 rfl (by decide) (wK op);have hI:=De (fun q i=>ih (op+1) (d+1) (by omega) q i) (q.to (i+1,false)) (i+1) rfl zFZ (by omega) hg;generalize eD (pp ts len) (xK (pp ts len) n) (q.to (i+1,false)) (d+1)=r at hI ⊢;rcases hI with ⟨h1,h2⟩|⟨h1,h2,h3,h4,⟨M,h5⟩,h6,h7,h8,v,y,h9,h10,h11⟩
    ·obtain⟨a,⟨⟨s1,s2⟩,nd,te,de⟩⟩:=r
     simp only at h1;subst h1;exact .inl ⟨rfl,by rw[hf];exact h2⟩
    ·obtain⟨a,⟨⟨s1,s2⟩,nd,te,de⟩⟩:=r
     simp only[GS.to]at h1 h2 h3 h4 h5 h6 h7 h8 h9 h10;subst h1;simp only[GS.to];rcases gX (len:=len) h3 (t:=vD) (by decide) with ⟨hc3,hlt3,e3⟩|⟨hc3,e3⟩
     ·rw[e3]
      have hnx:zT qB vD (op+1)=qB:=by
       rw[aO,if_neg (by rintro(⟨_,h⟩|⟨h,_⟩);omega;exact absurd h (by decide))];decide
      have hf3:=uT (len:=len) hlt3 hc3 hnx (by decide) (show opn vD (op+1)=op by rw[wH];omega);refine .inr ⟨rfl,(by show i<s1+1;omega),hlt3,hf.trans (h4.trans hf3),⟨M,h5⟩,h6,fun h=>absurd h (by decide),fun h=>absurd h (by decide),TT ts i::(v++[TT ts s1]),y,cJ.br _ _ _ _ _ _ _ hc2 hc3 h9,?_,?_⟩
      ·show ts.drop i=(TT ts i::(v++[TT ts s1]))++ts.drop (s1+1)
       rw[zO ts i zFZ,h10,zO ts s1 hlt3];simp
      ·obtain⟨y2,L2,v1,v2,v3,v4,v5,v6⟩:=h11
       simp only[GS.to]at v3 v4 v6;have ho:zX (TT ts i).2=yU:=hc2;have hs:zX (TT ts s1).2=vD:=hc3;refine⟨(y2.1,y2.2+1),L2,zFE hc2 hc3 h9 v1,by simp only;omega,v3,?_,(v5.behind (by rw[hs];decide) (by rw[hs];exact⟨by decide,by decide⟩)).ahead (by rw[ho];decide) (by rw[ho];exact⟨by decide,by decide⟩),v6⟩;show q.dep<=de/\d+(y2.2+1)<=de/\(de=q.dep\/de=d+(y2.2+1));omega
     ·rw[e3]
      refine .inl ⟨rfl,?_⟩;rw[hf,h4];exact nK h3 (ZD (h8 (by decide)) (h7 (by decide)) (fun e=>absurd e hc3) (fun _=>by omega)) (.inr (by decide))
   ·rw[e2]
    simp only;have hT:=GV (len:=len) zGN hi op hc hc2;generalize vF (pp ts len) (i,false)=r at hT ⊢;obtain⟨z,⟨s1,s2⟩⟩:=r;rcases hT with ⟨h1,h2⟩|⟨h1,h2,h3,h4,u,h5,h6,⟨h7,h8,h9,hTT⟩,h11⟩
    ·simp only at h1;subst h1
     exact .inl ⟨rfl,h2⟩
    ·simp only at h1 h2 h3 h4 h5 h7 h8 h9;subst h1
     have en:qX (q.nd++[z]) (q.nd.length:Int).toNat=z:=by rw[Int.toNat_natCast];exact wT _ _
     refine .inr ⟨rfl,h2,h3,h4,⟨[z],rfl⟩,?_,fun h=>absurd h (by decide),fun h=>absurd h (by decide),u,(dA u,0),?_,h5,?_⟩
     ·have hz:Bb z q.nd.length:=⟨fun (e:z.kind=1)=>by omega,fun (e:z.kind=2)=>by omega,fun (e:z.kind=3)=>by omega,fun _ _ _=>⟨h7,h8⟩⟩
      exact dG.add hg hz
     ·show Gr 0 u (dA u,0) (q.nd++[z]) (q.nd.length:Int)
      refine cJ.test _ _ _ _ h6 ⟨by omega,by simp only[List.length_append,List.length_singleton];omega,?_⟩;rw[en];exact⟨h7.1,h9,hTT⟩
     ·refine⟨(1,0),KJ z,jj h6,by simp,rfl,?_,h11,?_⟩
      ·show q.dep<=(if q.dep<d then d else q.dep)/\d+0<=(if q.dep<d then d else q.dep)/\((if q.dep<d then d else q.dep)=q.dep\/(if q.dep<d then d else q.dep)=d+0)
       split <;> omega
      ·show jV (q.nd++[z])=_
       rw[iG];simp[jV]
theorem FG{ts:zI}{len i:Nat}(zGN:fO ts)(hi:i<=ts.length):Ug ts len 2 i 0 0 ⟨(i,false),[],0,0⟩ (vU (pp ts len) (i,false)):=by
 unfold vU Zz;exact De (fun q i=>uw zGN (pp ts len).length 0 0 (by decide) q i) ⟨(i,false),[],0,0⟩ i rfl hi (by rw[eY];omega) aS
end Go.Proofs.YtnbpdffdnphbeaaGreatDoor
