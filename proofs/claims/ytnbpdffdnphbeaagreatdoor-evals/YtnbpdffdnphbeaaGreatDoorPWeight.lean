import Derived.Test.YtnbpdffdnphbeaaGreatDoorWsum
namespace Go.Proofs.YtnbpdffdnphbeaaGreatDoor
def pK(a b:Int × Int):Int × Int:=(a.1+b.1,if a.2<b.2 then b.2 else a.2)
def yG:Nat->zJ->Int × Int
 | 0,_=>(0,0)
 | n+1,ts =>
   if 0<=yN ts vK then pK (yG n (ts.take (yN ts vK).toNat)) (yG n (ts.drop ((yN ts vK).toNat+1)))
   else if 0<=yN ts yL then pK (yG n (ts.take (yN ts yL).toNat)) (yG n (ts.drop ((yN ts yL).toNat+1)))
   else if zX (ts.getD 0 (0,[])).2=xG then ((yG n (ts.drop 1)).1,(yG n (ts.drop 1)).2+1)
   else if zX (ts.getD 0 (0,[])).2=yW then ((yG n ((ts.drop 1).take (ts.length-2))).1,(yG n ((ts.drop 1).take (ts.length-2))).2+1)
   else (1,0)
theorem tE(n:Nat):∀ts:zJ,0<=(yG n ts).1/\(yG n ts).1<=ts.length+1/\0<=(yG n ts).2/\(yG n ts).2<=ts.length:=by
 induction n with
 | zero=>intro ts;simp[yG];omega
 | succ n ih =>
   intro ts;rw[yG];split
   ·rename_i h
    have hb:=(vC ts vK).2;have h1:=ih (ts.take (yN ts vK).toNat);have h2:=ih (ts.drop ((yN ts vK).toNat+1));rw[List.length_take]at h1;rw[List.length_drop]at h2;simp only[pK];split <;> omega
   ·split
    ·rename_i h
     have hb:=(vC ts yL).2;have h1:=ih (ts.take (yN ts yL).toNat);have h2:=ih (ts.drop ((yN ts yL).toNat+1));rw[List.length_take]at h1;rw[List.length_drop]at h2;simp only[pK];split <;> omega
    ·split
     ·rename_i h
      have h1:=ih (ts.drop 1)
      have h2:0<ts.length:=by
       cases ts with
       | nil=>exact absurd h (by decide)
       | cons _ _=>simp
      rw[List.length_drop]at h1;simp only;omega
     ·split
      ·rename_i h
       have h1:=ih ((ts.drop 1).take (ts.length-2))
       have h2:0<ts.length:=by
        cases ts with
        | nil=>exact absurd h (by decide)
        | cons _ _=>simp
       rw[List.length_take,List.length_drop]at h1;simp only;omega
      ·simp;omega
def ZY(r:zJ)(nx:Bs):Bs:=match r with | []=>nx|s::_=>zX s.2
def vg(p:Bs):zJ->Bs
 | []=>p
 | t::r=>vg (zX t.2) r
def CP(p:Bs):zJ->Bs
 | []=>p
 | t::r=>CP t.2 r
def mT(p nx:Bs):Nat:=if p=[104,97,115] then 1 else if p∈kS\/nx∈kS then 2 else 3
def qN:Bs->zJ->Bs->List (Nat × Bs)
 | _,[],_=>[]
 | p,t::r,nx=>(if zX t.2=yP then [(mT p (ZY r nx),t.2)] else [])++qN (zX t.2) r nx
theorem DV(u v:zJ)(nx:Bs):ZY (u++v) nx=ZY u (ZY v nx):=by cases u <;> rfl
theorem QK(u v:zJ)(nx:Bs):∀p,qN p (u++v) nx=qN p u (ZY v nx)++qN (vg p u) v nx:=by
 induction u with
 | nil=>intro p;rfl
 | cons t r ih=>intro p;rw[List.cons_append,qN,ih,qN,vg,DV,List.append_assoc]
def neut(c:Bs):Prop:=c≠[104,97,115]/\c ∉ kS
def rJ(u:zJ)(L:List (Nat × Bs)):Prop:=∀p nx,neut p->nx ∉ kS->qN p u nx=L
theorem rJ.join{u v:zJ}{t:Nat × Bs}{L L':List (Nat × Bs)}(hu:rJ u L)(hv:rJ v L')(ht:zX t.2≠yP)(hn:neut (zX t.2)):rJ (u++t::v) (L++L'):=by
 intro p nx hp hnx;rw[QK,show ZY (t::v) nx=zX t.2 from rfl,hu p _ hp hn.2,qN,if_neg ht,List.nil_append,hv _ _ hn hnx]
theorem rJ.ahead{u:zJ}{t:Nat × Bs}{L:List (Nat × Bs)}(hu:rJ u L)(ht:zX t.2≠yP)(hn:neut (zX t.2)):rJ (t::u) L:=by
 intro p nx _ hnx;rw[qN,if_neg ht,List.nil_append,hu _ _ hn hnx]
theorem rJ.behind{u:zJ}{t:Nat × Bs}{L:List (Nat × Bs)}(hu:rJ u L)(ht:zX t.2≠yP)(hn:neut (zX t.2)):rJ (u++[t]) L:=by
 intro p nx hp _;rw[QK,show ZY [t] nx=zX t.2 from rfl,hu p _ hp hn.2,qN,if_neg ht,qN];simp
def KI(x:yB):List (Nat × Bs) :=
 if x.kind=5 then [(1,x.name)] else if x.kind=6 then [(3,x.name)] else if x.kind=7 then (2,x.name)::(if x.other=[] then [] else [(2,x.other)]) else []
def jV(N:List yB):List (Nat × Bs):=N.flatMap KI
theorem iI(N M:List yB):jV (N++M)=jV N++jV M:=by simp[jV]
def cF:zJ->List (Nat × Bs)
 | []=>[]
 | t::r=>(if zX t.2=yP then [(0,t.2)] else [])++cF r
def qV:zJ->Nat
 | []=>0
 | t::r=>(if zX t.2=[43]\/zX t.2=[45] then 1 else 0)+qV r
def mD:Bs->zJ->Bool
 | _,[]=>false
 | p,t::r=>(decide (zX t.2=[42])&&decide (9<xH 0 p)) || mD t.2 r
theorem DW(u v:zJ):cF (u++v)=cF u++cF v:=by
 induction u with
 | nil=>rfl
 | cons t r ih=>rw[List.cons_append,cF,ih,cF,List.append_assoc]
theorem Ge(u v:zJ):qV (u++v)=qV u+qV v:=by
 induction u with
 | nil=>simp[qV]
 | cons t r ih=>rw[List.cons_append,qV,ih,qV];omega
theorem qp(u v:zJ):∀p,mD p (u++v)=(mD p u || mD (CP p u) v):=by
 induction u with
 | nil=>intro p;simp[mD,CP]
 | cons t r ih=>intro p;rw[List.cons_append,mD,ih,mD,CP,Bool.or_assoc]
def sE(x:xC):List (Nat × Bs):=if x.name=[] then [] else [(0,x.name)]
def jT(x:xC):Bool:=x.starred&&decide (9<x.num)
structure Qt(v:zJ)(S:List xC):Prop where
 needs:cF v=S.flatMap sE
 count:qV v+1=S.length
 big:∀p,mD p v=S.any jT
 star:∀k,k<v.length->zX (v.getD k (0,[])).2=[42]->0<k/\zX (v.getD (k-1) (0,[])).2=zV
theorem Qt.join{u v:zJ}{t:Nat × Bs}{S S':List xC}(hu:Qt u S)(hv:Qt v S')(ht:zX t.2=[43]\/zX t.2=[45]):Qt (u++t::v) (S++S'):=by
 have h1:zX t.2≠yP:=by rcases ht with h|h <;> rw[h] <;> decide
 have h2:zX t.2≠[42]:=by rcases ht with h|h <;> rw[h] <;> decide
 refine⟨?_,?_,?_,?_⟩
 ·rw[DW,cF,if_neg h1,hu.needs,hv.needs,List.flatMap_append,List.nil_append]
 ·rw[Ge,qV,if_pos ht,List.length_append,<-hu.count,<-hv.count];omega
 ·intro p;rw[qp,mD,hu.big,hv.big,decide_eq_false h2,List.any_append];simp
 ·intro k hk h
  rcases Nat.lt_trichotomy k u.length with h3|h3|h3
  ·have e:∀i,i<u.length->(u++t::v).getD i (0,[])=u.getD i (0,[]):=fun i hi=>by rw[List.getD,List.getD,List.getElem?_append_left hi]
   rw[e k h3]at h;obtain⟨h4,h5⟩:=hu.star k h3 h;exact⟨h4,by rw[e (k-1) (by omega)];exact h5⟩
  ·subst h3
   rw[List.getD,List.getElem?_append_right (Nat.le_refl _)]at h;simp only[Nat.sub_self,List.getElem?_cons_zero,Option.getD_some]at h;exact absurd h h2
  ·have e:∀i,u.length<i->(u++t::v).getD i (0,[])=v.getD (i-u.length-1) (0,[]):=fun i hi=>by
    rw[List.getD,List.getD,List.getElem?_append_right (by omega)];obtain⟨m,hm⟩:∃m,i-u.length=m+1:=⟨i-u.length-1,by omega⟩;rw[hm];rfl
   rw[e k h3]at h;obtain⟨h4,h5⟩:=hv.star (k-u.length-1) (by simp only[List.length_append,List.length_cons]at hk;omega) h;exact⟨by omega,by rw[e (k-1) (by omega),show k-1-u.length-1=k-u.length-1-1 by omega];exact h5⟩
def jI(st:Bs):List Bs:=(List.range 43).filterMap fun i=>if vA.getD (i*3) []=st then some (vA.getD (i*3+1) []) else none
theorem JH(st cl:Bs)(n:Nat):∀i,i+n<=43->cl ∉ jI st->xT st cl n i=[]:=by
 induction n with
 | zero=>intro i _ _;rfl
 | succ n ih =>
   intro i hi h;rw[xT,if_neg,ih (i+1) (by omega) h];rintro⟨h1,h2⟩;refine h (List.mem_filterMap.2 ⟨i,List.mem_range.2 (by omega),?_⟩);rw[if_pos h1,h2]
theorem Bl{st cl:Bs}{op:Int}(h1:st≠uN)(h2:st≠qB):zT st cl op=xT st cl 43 0:=by
 unfold zT;simp only[h1,false_and,if_false,h2]
theorem mS{st cl:Bs}{op:Int}(h1:st≠uN)(h2:st≠qB)(h:cl ∉ jI st):zT st cl op=[]:=by
 rw[Bl h1 h2];exact JH st cl 43 0 (by omega) h
theorem Bk:jI qB=[vK,yL,vD,qH]:=by decide
theorem KK:jI uN=kS:=by decide
theorem aQ(cl:Bs)(op:Int):zT qB cl op=if cl=vD/\op=0\/cl=qH/\0<op then [] else xT qB cl 43 0:=by
 unfold zT;simp only[ite_self,true_and]
theorem ZD{cl:Bs}{op:Int}(h1:cl≠vK)(h2:cl≠yL)(h3:cl=vD->op=0)(h4:cl=qH->0<op):zT qB cl op=[]:=by
 rw[aQ];split
 ·rfl
 ·rename_i h
  refine JH _ _ 43 0 (by omega) ?_;rw[Bk];simp only[List.mem_cons,List.not_mem_nil,or_false,h1,h2,false_or];rintro(e|e)
  ·exact h (.inl ⟨e,h3 e⟩)
  ·exact h (.inr ⟨e,h4 e⟩)
theorem Bp{cl:Bs}{op:Int}(h:cl ∉ kS):zT uN cl op=zT qB cl op:=by
 by_cases hc:cl=vK\/cl=yL\/cl=vD\/cl=qH
 ·unfold zT
  simp only[hc,and_self,if_true,ite_self]
 ·have e1:zT uN cl op=xT uN cl 43 0:=by
   unfold zT;simp only[hc,and_false,if_false];rw[if_neg (by intro h;exact absurd h.1 (by decide))]
  rw[e1,JH _ _ 43 0 (by omega) (by rw[KK];exact h)];rw[ZD (fun e=>hc (.inl e)) (fun e=>hc (.inr (.inl e))) (fun e=>absurd (.inr (.inr (.inl e))) hc) (fun e=>absurd (.inr (.inr (.inr e))) hc)]
def jf:List Bs:=CR++KP
theorem Z5:∀t∈jf,zX t=t/\vH t=4/\t≠Yw/\t≠yP/\t≠zV:=by decide
theorem aX(s:Bs):(vH s=4/\s∈jf/\zX s=s)\/(vH s=2/\zX s=yP)\/(vH s=3/\zX s=zV)\/(vH s=1/\zX s=Yw):=by
 unfold vH zX;rw[Cj,VP];split
 ·split
  ·exact .inr (.inr (.inr ⟨rfl,rfl⟩))
  ·split
   ·rename_i h
    refine .inl ⟨rfl,?_,rfl⟩;unfold uY at h;exact List.mem_append.2 (.inl (by simpa using h))
   ·exact .inr (.inl ⟨rfl,rfl⟩)
 ·split
  ·split
   ·exact .inr (.inr (.inr ⟨rfl,rfl⟩))
   ·exact .inr (.inr (.inl ⟨rfl,rfl⟩))
  ·split
   ·rename_i h
    refine .inl ⟨rfl,?_,rfl⟩;unfold vI at h;exact List.mem_append.2 (.inr (by simpa using h))
   ·exact .inr (.inr (.inr ⟨rfl,rfl⟩))
theorem Cb{s t:Bs}(ht:t∈jf):(vH s=4/\s=t) ↔ zX s=t:=by
 obtain⟨a,b,c,d,e⟩:=Z5 t ht;constructor
 ·rintro⟨_,rfl⟩;exact a
 ·intro h
  rcases aX s with ⟨h1,_,h2⟩|⟨_,h2⟩|⟨_,h2⟩|⟨_,h2⟩
  ·exact⟨h1,h2.symm.trans h⟩
  ·exact absurd (h.symm.trans h2) d
  ·exact absurd (h.symm.trans h2) e
  ·exact absurd (h.symm.trans h2) c
theorem VE(s:Bs):vH s=2 ↔ zX s=yP:=by
 rcases aX s with ⟨h1,h3,h2⟩|⟨h1,h2⟩|⟨h1,h2⟩|⟨h1,h2⟩
 ·obtain⟨a,b,c,d,e⟩:=Z5 s h3
  exact⟨fun h=>absurd (h1.symm.trans h) (by decide),fun h=>absurd (h2.symm.trans h) d⟩
 ·exact⟨fun _=>h2,fun _=>h1⟩
 ·exact⟨fun h=>absurd (h1.symm.trans h) (by decide),fun h=>absurd (h2.symm.trans h) (by decide)⟩
 ·exact⟨fun h=>absurd (h1.symm.trans h) (by decide),fun h=>absurd (h2.symm.trans h) (by decide)⟩
theorem mM(s:Bs):vH s=3 ↔ zX s=zV:=by
 rcases aX s with ⟨h1,h3,h2⟩|⟨h1,h2⟩|⟨h1,h2⟩|⟨h1,h2⟩
 ·obtain⟨a,b,c,d,e⟩:=Z5 s h3
  exact⟨fun h=>absurd (h1.symm.trans h) (by decide),fun h=>absurd (h2.symm.trans h) e⟩
 ·exact⟨fun h=>absurd (h1.symm.trans h) (by decide),fun h=>absurd (h2.symm.trans h) (by decide)⟩
 ·exact⟨fun _=>h2,fun _=>h1⟩
 ·exact⟨fun h=>absurd (h1.symm.trans h) (by decide),fun h=>absurd (h2.symm.trans h) (by decide)⟩
def pp(ts:zJ)(len:Nat):List PT:=ts.map (fun t=>⟨vH t.2,t.2,pC t.2,t.1⟩)++[⟨0,[],0,len⟩]
theorem iB(ts:zJ)(len:Nat):(pp ts len).length=ts.length+1:=by simp[pp]
def tA(ts:zJ)(i:Nat):Bs:=(ts.getD i (0,[])).2
def cA(ts:zJ)(i:Nat):Bs:=zX (tA ts i)
theorem JW{ts:zJ}{i:Nat}(h:ts.length<=i):cA ts i=Yw:=by
 unfold cA tA;rw[List.getD,List.getElem?_eq_none h];decide
theorem qk{ts:zJ}{i:Nat}(h:cA ts i≠Yw):i<ts.length:=by
 rcases Nat.lt_or_ge i ts.length with h1|h1
 ·exact h1
 ·exact absurd (JW h1) h
theorem cP{ts:zJ}{i:Nat}{t:Bs}(ht:t∈jf)(h:cA ts i=t):i<ts.length/\tA ts i=t :=
 ⟨qk (by rw[h];exact(Z5 t ht).2.2.1),((Cb ht).2 h).2⟩
theorem nG{ts:zJ}{len i:Nat}(h:i<ts.length):yO (pp ts len) i=⟨vH (tA ts i),tA ts i,pC (tA ts i),(ts.getD i (0,[])).1⟩:=by
 unfold yO pp tA;rw[List.getD,List.getElem?_append_left (by simpa using h)];simp[List.getD,h]
theorem aW{ts:zJ}{len:Nat}:yO (pp ts len) ts.length=⟨0,[],0,len⟩:=by
 unfold yO pp;simp[List.getD]
theorem Y4{ts:zJ}{len i:Nat}(h:i<=ts.length){t:Bs}(ht:t∈jf):bD (pp ts len) t i false=decide (cA ts i=t):=by
 unfold bD;rcases Nat.lt_or_ge i ts.length with h1|h1
 ·rw[nG h1]
  simp only[Bool.not_false,Bool.true_and,<-Bool.decide_and];exact decide_eq_decide.2 (Cb ht)
 ·obtain rfl:i=ts.length:=by omega
  rw[aW,JW (Nat.le_refl _)];have h2:=(Z5 t ht).2.2.1;have h3:¬Yw=t:=fun e=>h2 e.symm;rw[decide_eq_false h3];rfl
theorem Ku{ts:zJ}{len i:Nat}(h:i<=ts.length):qW (pp ts len) 2 i false=decide (cA ts i=yP):=by
 unfold qW;rcases Nat.lt_or_ge i ts.length with h1|h1
 ·rw[nG h1]
  simp only[Bool.not_false,Bool.true_and];exact decide_eq_decide.2 (VE _)
 ·obtain rfl:i=ts.length:=by omega
  rw[aW,JW (Nat.le_refl _)];rfl
theorem YL{ts:zJ}{len i:Nat}(h:i<=ts.length):qW (pp ts len) 3 i false=decide (cA ts i=zV):=by
 unfold qW;rcases Nat.lt_or_ge i ts.length with h1|h1
 ·rw[nG h1]
  simp only[Bool.not_false,Bool.true_and];exact decide_eq_decide.2 (mM _)
 ·obtain rfl:i=ts.length:=by omega
  rw[aW,JW (Nat.le_refl _)];rfl
section steps
variable {ts:zJ} {len i:Nat}
theorem cU(h:i<=ts.length){t:Bs}(ht:t∈jf):(cA ts i=t/\i<ts.length/\zC (pp ts len) t (i,false)=(true,(i+1,false)))\/(cA ts i≠t/\zC (pp ts len) t (i,false)=(false,(i,false))):=by
 by_cases hc:cA ts i=t
 ·refine .inl ⟨hc,(cP ht hc).1,?_⟩
  simp only[zC,Y4 h ht,hc,decide_true,Jj]
 ·refine .inr ⟨hc,?_⟩
  simp only[zC,Y4 h ht,hc,decide_false,Jj]
theorem gY(h:i<=ts.length){t:Bs}(ht:t∈jf):(cA ts i=t/\i<ts.length/\zY (pp ts len) t (i,false)=(i+1,false))\/(cA ts i≠t/\zY (pp ts len) t (i,false)=(i,true)):=by
 by_cases hc:cA ts i=t
 ·refine .inl ⟨hc,(cP ht hc).1,?_⟩
  simp only[zY,Y4 h ht,hc,decide_true,Jj,Bool.not_true]
 ·refine .inr ⟨hc,?_⟩
  simp only[zY,Y4 h ht,hc,decide_false,Jj,Bool.not_false]
theorem fG(h:i<=ts.length):(cA ts i=yP/\i<ts.length/\zN (pp ts len) (i,false)=(tA ts i,(i+1,false)))\/(cA ts i≠yP/\zN (pp ts len) (i,false)=([],(i,true))):=by
 by_cases hc:cA ts i=yP
 ·have hi:i<ts.length:=qk (by rw[hc];decide)
  refine .inl ⟨hc,hi,?_⟩;simp only[zN,Ku h,hc,decide_true,Jj,tk,nG hi,Bool.not_true]
 ·refine .inr ⟨hc,?_⟩
  simp only[zN,Ku h,hc,decide_false,Jj,tk,pz,Bool.not_false]
theorem K8{s:Bs}(h:zX s=zV):pC s=xH 0 s:=by unfold pC;rw[if_pos ((mM s).2 h)]
theorem wP(h:i<=ts.length):(cA ts i=zV/\i<ts.length/\yR (pp ts len) (i,false)=(xH 0 (tA ts i),(i+1,false)))\/(cA ts i≠zV/\yR (pp ts len) (i,false)=(0,(i,true))):=by
 by_cases hc:cA ts i=zV
 ·have hi:i<ts.length:=qk (by rw[hc];decide)
  refine .inl ⟨hc,hi,?_⟩;simp only[yR,YL h,hc,decide_true,Jj,tk,nG hi,Bool.not_true,K8 hc]
 ·refine .inr ⟨hc,?_⟩
  simp only[yR,YL h,hc,decide_false,Jj,tk,pz,Bool.not_false]
theorem YB(h:i<=ts.length)(b:Bool):isNum (pp ts len) (i,b)=decide (cA ts i=zV):=by
 rw[<-YL (len:=len) h];simp only[isNum,qW,Bool.not_false,Bool.true_and];rfl
theorem BZ:∀t∈kS,t∈jf:=by decide
theorem zEH(h:i<=ts.length):(cA ts i∈kS/\i<ts.length/\tA ts i=cA ts i/\vT (pp ts len) (i,false)=(cA ts i,(i+1,false)))\/(cA ts i ∉ kS/\vT (pp ts len) (i,false)=([],(i,false))):=by
 by_cases hc:cA ts i∈kS
 ·obtain⟨h1,h2⟩:=cP (BZ _ hc) rfl
  refine .inl ⟨hc,h1,h2,?_⟩;unfold vT;have e:(yO (pp ts len) i).s=cA ts i:=by rw[nG h1];exact h2
  simp only[e];rcases cU (len:=len) h (BZ _ hc) with ⟨_,_,h3⟩|⟨h3,_⟩
  ·simp only[List.contains_iff_mem.2 hc,h3]
  ·exact absurd rfl h3
 ·refine .inr ⟨hc,?_⟩
  unfold vT
  have e:kS.contains (yO (pp ts len) i).s=false:=by
   rw[Bool.eq_false_iff];intro h1;have h2:=List.contains_iff_mem.1 h1;rcases Nat.lt_or_ge i ts.length with h3|h3
   ·rw[nG h3]at h2
    have h4:tA ts i∈kS:=h2;exact hc (by unfold cA;rw[(Z5 _ (BZ _ h4)).1];exact h4)
   ·obtain rfl:i=ts.length:=by omega
    rw[aW]at h2;exact absurd (show ([]:Bs)∈kS from h2) (by decide)
  simp only[e]
theorem U6(P:List PT)(t:Bs)(i:Nat):zC P t (i,true)=(false,(i,true)):=rfl
theorem rT(P:List PT)(t:Bs)(i:Nat):zY P t (i,true)=(i,true):=rfl
theorem Bq(P:List PT)(i:Nat):zN P (i,true)=([],(i,true)):=rfl
theorem Xj(P:List PT)(i:Nat):yR P (i,true)=(0,(i,true)):=rfl
end steps
def FA(ts:zJ)(len:Nat)(i:Nat)(st:Bs)(op:Int):Int:=kR len (ts.drop i) st op
theorem uT{ts:zJ}{len i:Nat}{st cl st':Bs}{op op':Int}(h:i<ts.length)(hc:cA ts i=cl)(h1:zT st cl op=st')(h2:st'≠[])(h3:opn cl op=op'):FA ts len i st op=FA ts len (i+1) st' op':=by
 unfold FA;subst hc h1 h3;rw[zO ts i h,kR];exact if_neg h2
theorem nL{ts:zJ}{len i:Nat}{st:Bs}{op:Int}(h0:i<=ts.length)(h1:zT st (cA ts i) op=[])(h2:i<ts.length\/st≠kX):FA ts len i st op=((yO (pp ts len) i).p:Int):=by
 unfold FA;rcases Nat.lt_or_ge i ts.length with h|h
 ·rw[zO ts i h,kR,nG h]
  show (if zT st (cA ts i) op=[] then _ else _)=_;rw[if_pos h1]
 ·obtain rfl:i=ts.length:=by omega
  rw[List.drop_length,kR,if_neg (by rcases h2 with h2|h2;omega;exact h2),aW]
theorem j7{ts:zJ}{len i:Nat}{op:Int}(h:cA ts i ∉ kS):FA ts len i uN op=FA ts len i qB op:=by
 unfold FA;rcases Nat.lt_or_ge i ts.length with h1|h1
 ·rw[zO ts i h1,kR,kR]
  have e:zT uN (zX (ts.getD i (0,[])).2) op=zT qB (zX (ts.getD i (0,[])).2) op:=Bp h;rw[e]
 ·rw[List.drop_eq_nil_of_le h1,kR,kR];rfl
abbrev tT(c:Bs):Prop:=c≠vK/\c≠yL/\c≠vD/\c≠yW/\c≠qH/\c≠xG
def Uh:zJ->Int->Int
 | [],op=>op
 | t::r,op=>Uh r (opn (zX t.2) op)
theorem J4(u v:zJ):∀op,Uh (u++v) op=Uh v (Uh u op):=by
 induction u with
 | nil=>intro op;rfl
 | cons t r ih=>intro op;exact ih _
theorem kL(w:Bs)(u v:zJ):∀i op at',uX w (u++v) i op at'=uX w v (i+u.length) (Uh u op) (uX w u i op at'):=by
 induction u with
 | nil=>intro i op a;rfl
 | cons t r ih=>intro i op a;rw[List.cons_append,uX,ih,uX,Uh,List.length_cons];congr 1;omega
theorem DN{c:Bs}(h:tT c)(op:Int):opn c op=op:=by unfold opn;rw[if_neg h.2.2.2.1,if_neg h.2.2.1]
theorem jt(u:zJ)(h:∀t∈u,tT (zX t.2)):∀op,Uh u op=op:=by
 induction u with
 | nil=>intro op;rfl
 | cons t r ih=>intro op;rw[Uh,DN (h t (List.mem_cons_self ..)),ih (fun x hx=>h x (List.mem_cons_of_mem _ hx))]
theorem tP(w:Bs)(hw:w=vK\/w=yL)(u:zJ)(h:∀t∈u,tT (zX t.2)):∀i op at',uX w u i op at'=at':=by
 induction u with
 | nil=>intro i op a;rfl
 | cons t r ih =>
   intro i op a;have h1:=h t (List.mem_cons_self ..);rw[uX,if_neg,ih (fun x hx=>h x (List.mem_cons_of_mem _ hx))];rintro⟨_,h2⟩;rcases hw with rfl|rfl
   ·exact h1.1 h2
   ·exact h1.2.1 h2
theorem wN(op:Int):opn yW op=op+1:=if_pos rfl
theorem wM(op:Int):opn vD op=op-1:=by unfold opn;rw[if_neg (by decide),if_pos rfl]
theorem wO(op:Int):opn xG op=op:=by unfold opn;rw[if_neg (by decide),if_neg (by decide)]
theorem iG(op:Int):opn vK op=op:=by unfold opn;rw[if_neg (by decide),if_neg (by decide)]
theorem dJ(op:Int):opn yL op=op:=by unfold opn;rw[if_neg (by decide),if_neg (by decide)]
theorem jr{n:Nat}{ts:zJ}{k:Nat}(h:yN ts vK=k):pO (n+1) ts=((pO n (ts.take k)).1++[32,111,114,32]++(pO n (ts.drop (k+1))).1,2)/\qD (n+1) ts=(qD n (ts.take k)&&qD n (ts.drop (k+1))):=by
 rw[pO,qD,h,if_pos (by omega),if_pos (by omega)];exact⟨rfl,rfl⟩
theorem GR{n:Nat}{ts:zJ}{k:Nat}(h0:yN ts vK = -1)(h:yN ts yL=k):pO (n+1) ts=((if (pO n (ts.take k)).2=2 then Un (pO n (ts.take k)).1 else (pO n (ts.take k)).1)++[32,97,110,100,32]++(if (pO n (ts.drop (k+1))).2=2 then Un (pO n (ts.drop (k+1))).1 else (pO n (ts.drop (k+1))).1),1)/\qD (n+1) ts=(qD n (ts.take k)&&qD n (ts.drop (k+1))):=by
 constructor
 ·rw[pO,h0,h,if_neg (by omega),if_pos (Int.natCast_nonneg k)];rfl
 ·rw[qD,h0,h,if_neg (by omega),if_pos (Int.natCast_nonneg k)];rfl
theorem lG(s r:Bs)(st:fW):xD (s++[32]++r) st=xD r (xD s st):=by
 obtain⟨o,il⟩:=st;cases il <;> simp[xD,zFJ]
def kP:zJ->fW->fW
 | [],st=>st
 | t::r,st=>kP r (xD t.2 st)
theorem iA(u v:zJ):∀st,kP (u++v) st=kP v (kP u st):=by
 induction u with
 | nil=>intro st;rfl
 | cons t r ih=>intro st;exact ih _
theorem K9(r:zJ):∀(s:Bs) (i:Nat) (st:fW),xD (Vt s (i+1) r) st=kP r (xD s st):=by
 induction r with
 | nil=>intro s i st;rfl
 | cons t r ih=>intro s i st;rw[Vt,if_pos (by omega),ih,lG,kP]
theorem oI{u:zJ}(h:u≠[])(st:fW):kP u st=xD (dA u) st:=by
 cases u with
 | nil=>exact absurd rfl h
 | cons t r=>rw[dA,Vt,if_neg (by omega),List.nil_append,K9,kP]
theorem YG(s:Bs)(st:fW):xD (Un s) st=xD vD (xD s (xD yW st)):=by
 rw[<-lG,<-lG];simp[Un,vD,yW]
theorem wW{N M:List yB}{a:Nat}(h:a<N.length):qX (N++M) a=qX N a:=by
 unfold qX;rw[List.getD,List.getElem?_append_left h];rfl
abbrev lf(N:List yB)(a:Int):Int:=(qX N a.toNat).left
abbrev rg(N:List yB)(a:Int):Int:=(qX N a.toNat).right
def zCZ(x:yB)(u:zJ):Prop :=
 (x.kind=4/\∃t,u=[t]/\zX t.2=[97,108,119,97,121,115]) \/
 (x.kind=5/\∃t s,u=[t,s]/\zX t.2=[104,97,115]/\zX s.2=yP/\x.name=s.2) \/
 (x.kind=6/\∃t,u=[t]/\zX t.2=yP/\x.name=t.2) \/
 (x.kind=7/\∃t m s,u=[t,m,s]/\zX t.2=yP/\x.name=t.2/\m.2∈kS/\x.mark=m.2/\((zX s.2=zV/\x.other=[]/\x.num=xH 0 s.2)\/(zX s.2=yP/\x.other=s.2/\s.2≠[])))
def zD0(N:List yB)(a:Int)(u:zJ):Prop:=0<=a/\a<N.length/\(4<=(qX N a.toNat).kind)/\(∀st,Ko (qX N a.toNat) st=kP u st)/\zCZ (qX N a.toNat) u
def zFU(N:List yB)(a:Int):Prop:=0<=a/\a<N.length/\(qX N a.toNat).kind=3/\lf N a<a
def j9(kd:Int)(N:List yB)(a:Int):Prop:=0<=a/\a<N.length/\(qX N a.toNat).kind=kd/\lf N a<a/\rg N a<a
def Ju(u:zJ):Prop:=u≠[]/\∀t∈u,tT (zX t.2)
def J8(x:Bs × Int):Bs × Int:=([110,111,116,32]++(if 0<x.2 then Un x.1 else x.1),0)
def Ch(x y:Bs × Int):Bs × Int:=((if x.2=2 then Un x.1 else x.1)++[32,97,110,100,32]++(if y.2=2 then Un y.1 else y.1),1)
def orT(x y:Bs × Int):Bs × Int:=(x.1++[32,111,114,32]++y.1,2)
structure Cl(R:Nat->zJ->Bs × Int->List yB->Int->Prop):Prop where
 test:∀k u N a,Ju u->zD0 N a u->R k u (dA u,0) N a
 neg:∀k t u x N a,zX t.2=xG->zFU N a->R 0 u x N (lf N a)->R k (t::u) (J8 x) N a
 br:∀k o u c x N a,zX o.2=yW->zX c.2=vD->R 2 u x N a->R k (o::(u++[c])) x N a
 and:∀k u t v x y N a,1<=k->zX t.2=yL->j9 2 N a->R 1 u x N (lf N a)->R 0 v y N (rg N a)->R k (u++t::v) (Ch x y) N a
 or:∀k u t v x y N a,2<=k->zX t.2=vK->j9 1 N a->R 2 u x N (lf N a)->R 1 v y N (rg N a)->R k (u++t::v) (orT x y) N a
def Gr(k:Nat)(u:zJ)(x:Bs × Int)(N:List yB)(a:Int):Prop:=∀R,Cl R->R k u x N a
theorem cJ:Cl Gr:={
 test:=fun k u N a h1 h2 _ c=>c.test k u N a h1 h2
 neg:=fun k t u x N a h1 h2 h _ c=>c.neg k t u x N a h1 h2 (h _ c)
 br:=fun k o u e x N a h1 h2 h _ c=>c.br k o u e x N a h1 h2 (h _ c)
 and:=fun k u t v x y N a h1 h2 h3 h h' _ c=>c.and k u t v x y N a h1 h2 h3 (h _ c) (h' _ c)
 or:=fun k u t v x y N a h1 h2 h3 h h' _ c=>c.or k u t v x y N a h1 h2 h3 (h _ c) (h' _ c) }
theorem Gr.ind{R:Nat->zJ->Bs × Int->List yB->Int->Prop}
 (test:∀k u N a,Ju u->zD0 N a u->R k u (dA u,0) N a)
 (neg:∀k t u x N a,zX t.2=xG->zFU N a->Gr 0 u x N (lf N a)->R 0 u x N (lf N a)->R k (t::u) (J8 x) N a)
 (br:∀k o u c x N a,zX o.2=yW->zX c.2=vD->Gr 2 u x N a->R 2 u x N a->R k (o::(u++[c])) x N a)
 (and:∀k u t v x y N a,1<=k->zX t.2=yL->j9 2 N a->Gr 1 u x N (lf N a)->Gr 0 v y N (rg N a)->R 1 u x N (lf N a)->R 0 v y N (rg N a)->R k (u++t::v) (Ch x y) N a)
 (or:∀k u t v x y N a,2<=k->zX t.2=vK->j9 1 N a->Gr 2 u x N (lf N a)->Gr 1 v y N (rg N a)->R 2 u x N (lf N a)->R 1 v y N (rg N a)->R k (u++t::v) (orT x y) N a)
 {k:Nat} {u:zJ} {x:Bs × Int} {N:List yB} {a:Int} (h:Gr k u x N a):R k u x N a :=
 (h (fun k u x N a=>Gr k u x N a/\R k u x N a) {
  test:=fun k u N a h1 h2=>⟨cJ.test k u N a h1 h2,test k u N a h1 h2⟩
  neg:=fun k t u x N a h1 h2 h=>⟨cJ.neg k t u x N a h1 h2 h.1,neg k t u x N a h1 h2 h.1 h.2⟩
  br:=fun k o u c x N a h1 h2 h=>⟨cJ.br k o u c x N a h1 h2 h.1,br k o u c x N a h1 h2 h.1 h.2⟩
  and:=fun k u t v x y N a h1 h2 h3 h h'=>⟨cJ.and k u t v x y N a h1 h2 h3 h.1 h'.1,and k u t v x y N a h1 h2 h3 h.1 h'.1 h.2 h'.2⟩
  or:=fun k u t v x y N a h1 h2 h3 h h'=>⟨cJ.or k u t v x y N a h1 h2 h3 h.1 h'.1,or k u t v x y N a h1 h2 h3 h.1 h'.1 h.2 h'.2⟩ }).2
section gr
variable {k:Nat} {u:zJ} {x:Bs × Int} {N:List yB} {a:Int}
theorem Gr.le(h:Gr k u x N a){k':Nat}(hk:k<=k'):Gr k' u x N a:=by
 refine Gr.ind (R:=fun k u x N a=>∀k',k<=k'->Gr k' u x N a) ?_ ?_ ?_ ?_ ?_ h k' hk
 ·intro k u N a h1 h2 k' _;exact cJ.test _ _ _ _ h1 h2
 ·intro k t u x N a h1 h2 h3 _ k' _;exact cJ.neg _ _ _ _ _ _ h1 h2 h3
 ·intro k o u c x N a h1 h2 h3 _ k' _;exact cJ.br _ _ _ _ _ _ _ h1 h2 h3
 ·intro k u t v x y N a h1 h2 h3 h4 h5 _ _ k' hk;exact cJ.and _ _ _ _ _ _ _ _ (Nat.le_trans h1 hk) h2 h3 h4 h5
 ·intro k u t v x y N a h1 h2 h3 h4 h5 _ _ k' hk;exact cJ.or _ _ _ _ _ _ _ _ (Nat.le_trans h1 hk) h2 h3 h4 h5
theorem Gr.op(h:Gr k u x N a)(op:Int):Uh u op=op:=by
 refine Gr.ind (R:=fun _ u _ _ _=>∀op,Uh u op=op) ?_ ?_ ?_ ?_ ?_ h op
 ·intro k u N a h1 _ op;exact jt u h1.2 op
 ·intro k t u x N a h1 _ _ ih op;rw[Uh,h1,wO,ih]
 ·intro k o u c x N a h1 h2 _ ih op;rw[Uh,h1,wN,J4,ih,Uh,h2,wM,Uh];omega
 ·intro k u t v x y N a _ h2 _ _ _ ihu ihv op;rw[J4,ihu,Uh,h2,dJ,ihv]
 ·intro k u t v x y N a _ h2 _ _ _ ihu ihv op;rw[J4,ihu,Uh,h2,iG,ihv]
theorem Gr.inner(h:Gr k u x N a)(w:Bs)(hw:w=vK\/w=yL)(i:Nat)(op at':Int)(ho:0<op):uX w u i op at'=at':=by
 refine Gr.ind (R:=fun _ u _ _ _=>∀(i:Nat) (op at':Int),0<op->uX w u i op at'=at') ?_ ?_ ?_ ?_ ?_ h i op at' ho
 ·intro k u N a h1 _ i op at' _;exact tP w hw u h1.2 i op at'
 ·intro k t u x N a h1 _ _ ih i op at' ho
  rw[uX,h1,wO,if_neg (by intro e;omega),ih _ _ _ ho]
 ·intro k o u c x N a h1 h2 h3 ih i op at' ho
  rw[uX,h1,wN,if_neg (by intro e;omega),kL,ih _ _ _ (by omega),h3.op,uX,h2,wM,if_neg (by intro e;omega),uX]
 ·intro k u t v x y N a _ h2 _ h4 _ ihu ihv i op at' ho
  rw[kL,ihu _ _ _ ho,h4.op,uX,h2,dJ,if_neg (by intro e;omega),ihv _ _ _ ho]
 ·intro k u t v x y N a _ h2 _ h4 _ ihu ihv i op at' ho
  rw[kL,ihu _ _ _ ho,h4.op,uX,h2,iG,if_neg (by intro e;omega),ihv _ _ _ ho]
theorem nJ(w:Bs)(hw:w=vK\/w=yL){o c:Nat × Bs}(h1:zX o.2=yW)(h2:zX c.2=vD)(h3:Gr k u x N a)(i:Nat)(at':Int):uX w (o::(u++[c])) i 0 at'=at':=by
 rw[uX,h1,wN,if_neg (by intro e;omega),kL,h3.inner w hw _ _ _ (by omega),h3.op,uX,h2,wM,if_neg,uX];rintro⟨_,e⟩;rcases hw with rfl|rfl
 ·exact absurd e (by decide)
 ·exact absurd e (by decide)
theorem Gr.out0(h:Gr 0 u x N a)(w:Bs)(hw:w=vK\/w=yL)(i:Nat)(at':Int):uX w u i 0 at'=at':=by
 refine Gr.ind (R:=fun k u _ _ _=>k=0->∀(i:Nat) (at':Int),uX w u i 0 at'=at') ?_ ?_ ?_ ?_ ?_ h rfl i at'
 ·intro k u N a h1 _ _ i at';exact tP w hw u h1.2 i 0 at'
 ·intro k t u x N a h1 _ _ ih _ i at'
  rw[uX,h1,wO,if_neg,ih rfl];rintro⟨_,e⟩;rcases hw with rfl|rfl
  ·exact absurd e (by decide)
  ·exact absurd e (by decide)
 ·intro k o u c x N a h1 h2 h3 _ _ i at';exact nJ w hw h1 h2 h3 i at'
 ·intro k u t v x y N a h1 _ _ _ _ _ _ e;omega
 ·intro k u t v x y N a h1 _ _ _ _ _ _ e;omega
theorem Gr.out1(h:Gr k u x N a)(hk:k<=1)(i:Nat)(at':Int):uX vK u i 0 at'=at':=by
 refine Gr.ind (R:=fun k u _ _ _=>k<=1->∀(i:Nat) (at':Int),uX vK u i 0 at'=at') ?_ ?_ ?_ ?_ ?_ h hk i at'
 ·intro k u N a h1 _ _ i at';exact tP vK (.inl rfl) u h1.2 i 0 at'
 ·intro k t u x N a h1 _ _ ih _ i at'
  rw[uX,h1,wO,if_neg (by rintro⟨_,e⟩;exact absurd e (by decide)),ih (by decide)]
 ·intro k o u c x N a h1 h2 h3 _ _ i at';exact nJ vK (.inl rfl) h1 h2 h3 i at'
 ·intro k u t v x y N a _ h2 _ h4 _ ihu ihv _ i at'
  rw[kL,ihu (by decide),h4.op,uX,h2,dJ,if_neg (by rintro⟨_,e⟩;exact absurd e (by decide)),ihv (by decide)]
 ·intro k u t v x y N a h1 _ _ _ _ _ _ e;omega
theorem Gr.pos(h:Gr k u x N a):0<u.length:=by
 refine Gr.ind (R:=fun _ u _ _ _=>0<u.length) ?_ ?_ ?_ ?_ ?_ h
 ·intro k u N a h1 _;exact List.length_pos_iff.2 h1.1
 ·intro k t u x N a _ _ _ _;simp
 ·intro k o u c x N a _ _ _ _;simp
 ·intro k u t v x y N a _ _ _ _ _ _ _;simp only[List.length_append,List.length_cons];omega
 ·intro k u t v x y N a _ _ _ _ _ _ _;simp only[List.length_append,List.length_cons];omega
theorem Gr.bound(h:Gr k u x N a):0<=a/\a<N.length:=by
 refine Gr.ind (R:=fun _ _ _ N a=>0<=a/\a<(N.length:Int)) ?_ ?_ ?_ ?_ ?_ h
 ·intro k u N a _ h;exact⟨h.1,h.2.1⟩
 ·intro k t u x N a _ h _ _;exact⟨h.1,h.2.1⟩
 ·intro k o u c x N a _ _ _ ih;exact ih
 ·intro k u t v x y N a _ _ h _ _ _ _;exact⟨h.1,h.2.1⟩
 ·intro k u t v x y N a _ _ h _ _ _ _;exact⟨h.1,h.2.1⟩
theorem Gr.noEnd(h:Gr k u x N a):∀t∈u,zX t.2≠qH:=by
 refine Gr.ind (R:=fun _ u _ _ _=>∀t∈u,zX t.2≠qH) ?_ ?_ ?_ ?_ ?_ h
 ·intro k u N a h1 _ t ht;exact(h1.2 t ht).2.2.2.2.1
 ·intro k o u x N a h1 _ _ ih t ht
  rcases List.mem_cons.1 ht with rfl|ht
  ·rw[h1];decide
  ·exact ih t ht
 ·intro k o u c x N a h1 h2 _ ih t ht
  rcases List.mem_cons.1 ht with rfl|ht
  ·rw[h1];decide
  ·rcases List.mem_append.1 ht with ht|ht
   ·exact ih t ht
   ·obtain rfl:=List.mem_singleton.1 ht;rw[h2];decide
 ·intro k u o v x y N a _ h2 _ _ _ ihu ihv t ht
  rcases List.mem_append.1 ht with ht|ht
  ·exact ihu t ht
  ·rcases List.mem_cons.1 ht with rfl|ht
   ·rw[h2];decide
   ·exact ihv t ht
 ·intro k u o v x y N a _ h2 _ _ _ ihu ihv t ht
  rcases List.mem_append.1 ht with ht|ht
  ·exact ihu t ht
  ·rcases List.mem_cons.1 ht with rfl|ht
   ·rw[h2];decide
   ·exact ihv t ht
end gr
theorem GP{k:Nat}{u:zJ}{x:Bs × Int}{N:List yB}{a:Int}(h:Gr k u x N a)(n:Nat)(hn:u.length<n):pO n u=x/\qD n u=true:=by
 refine Gr.ind (R:=fun _ u x _ _=>∀n,u.length<n->pO n u=x/\qD n u=true) ?_ ?_ ?_ ?_ ?_ h n hn
 ·intro k u N a h _ n hn
  obtain⟨n,rfl⟩:∃m,n=m+1:=⟨n-1,by omega⟩;have e1:yN u vK = -1:=tP vK (.inl rfl) u h.2 0 0 (-1);have e2:yN u yL = -1:=tP yL (.inr rfl) u h.2 0 0 (-1)
  have hp:tT (zX (u.getD 0 (0,[])).2):=by
   obtain⟨h1,h2⟩:=h
   cases u with
   | nil=>exact absurd rfl h1
   | cons t r=>exact h2 t (List.mem_cons_self ..)
  have hl:0<u.length:=List.length_pos_iff.2 h.1;rw[pO,qD,e1,e2,if_neg (by omega),if_neg (by omega),if_neg hp.2.2.2.2.2,if_neg hp.2.2.2.1,if_neg (by omega),if_neg (by omega),if_neg hp.2.2.2.2.2,if_neg hp.2.2.2.1];exact⟨rfl,decide_eq_true hl⟩
 ·intro k t u x N a h1 h2 h3 ih n hn
  obtain⟨n,rfl⟩:∃m,n=m+1:=⟨n-1,by omega⟩;have hW:Gr 0 (t::u) (J8 x) N a:=cJ.neg _ _ _ _ _ _ h1 h2 h3;have e1:yN (t::u) vK = -1:=hW.out0 vK (.inl rfl) 0 (-1);have e2:yN (t::u) yL = -1:=hW.out0 yL (.inr rfl) 0 (-1);have hc:zX ((t::u).getD 0 (0,[])).2=xG:=h1;obtain⟨i1,i2⟩:=ih n (by simp at hn;omega);rw[pO,qD,e1,e2,if_neg (by omega),if_neg (by omega),if_pos hc,if_neg (by omega),if_neg (by omega),if_pos hc];simp only[List.drop_succ_cons,List.drop_zero,i1,i2,J8,List.length_cons];exact⟨trivial,by simp⟩
 ·intro k o u c x N a h1 h2 h3 ih n hn
  obtain⟨n,rfl⟩:∃m,n=m+1:=⟨n-1,by omega⟩;have e1:yN (o::(u++[c])) vK = -1:=nJ vK (.inl rfl) h1 h2 h3 0 (-1);have e2:yN (o::(u++[c])) yL = -1:=nJ yL (.inr rfl) h1 h2 h3 0 (-1);have hc:zX ((o::(u++[c])).getD 0 (0,[])).2=yW:=h1;have hc':¬zX ((o::(u++[c])).getD 0 (0,[])).2=xG:=by rw[hc];decide
  have hp:=h3.pos;obtain⟨i1,i2⟩:=ih n (by simp at hn;omega);rw[pO,qD,e1,e2,if_neg (by omega),if_neg (by omega),if_neg hc',if_pos hc,if_neg (by omega),if_neg (by omega),if_neg hc',if_pos hc];have e3:((o::(u++[c])).drop 1).take ((o::(u++[c])).length-2)=u:=by simp
  rw[e3,i1,i2];refine⟨rfl,?_⟩;simp;omega
 ·intro k u t v x y N a h1 h2 h3 h4 h5 ihu ihv n hn
  obtain⟨n,rfl⟩:∃m,n=m+1:=⟨n-1,by omega⟩;have hW:Gr 1 (u++t::v) (Ch x y) N a:=cJ.and _ _ _ _ _ _ _ _ (Nat.le_refl _) h2 h3 h4 h5;have e1:yN (u++t::v) vK = -1:=hW.out1 (Nat.le_refl _) 0 (-1)
  have e2:yN (u++t::v) yL=u.length:=by
   unfold yN;rw[kL,h4.op,uX,h2,dJ,if_pos ⟨rfl,rfl⟩,h5.out0 yL (.inr rfl)];omega
  obtain⟨x1,x2⟩:=GR (n:=n) e1 e2;have hl:(u++t::v).length=u.length+1+v.length:=by simp;omega
  obtain⟨i1,i2⟩:=ihu n (by omega);obtain⟨j1,j2⟩:=ihv n (by omega);have t1:(u++t::v).take u.length=u:=by simp
  have t2:(u++t::v).drop (u.length+1)=v:=by simp
  rw[t1,t2,i1,j1]at x1;rw[t1,t2,i2,j2]at x2;exact⟨x1,x2⟩
 ·intro k u t v x y N a h1 h2 h3 h4 h5 ihu ihv n hn
  obtain⟨n,rfl⟩:∃m,n=m+1:=⟨n-1,by omega⟩
  have e2:yN (u++t::v) vK=u.length:=by
   unfold yN;rw[kL,h4.op,uX,h2,iG,if_pos ⟨rfl,rfl⟩,h5.out1 (Nat.le_refl _)];omega
  obtain⟨x1,x2⟩:=jr (n:=n) e2;have hl:(u++t::v).length=u.length+1+v.length:=by simp;omega
  obtain⟨i1,i2⟩:=ihu n (by omega);obtain⟨j1,j2⟩:=ihv n (by omega);have t1:(u++t::v).take u.length=u:=by simp
  have t2:(u++t::v).drop (u.length+1)=v:=by simp
  rw[t1,t2,i1,j1]at x1;rw[t1,t2,i2,j2]at x2;exact⟨x1,x2⟩
theorem Y8{N M:List yB}{a:Int}(h:a<N.length):a<((N++M).length:Int):=by simp only[List.length_append];omega
theorem Gr.ext{k:Nat}{u:zJ}{x:Bs × Int}{N:List yB}{a:Int}(h:Gr k u x N a)(M:List yB):Gr k u x (N++M) a:=by
 refine Gr.ind (R:=fun k u x N a=>Gr k u x (N++M) a) ?_ ?_ ?_ ?_ ?_ h
 ·intro k u N a h1 h
  have e:qX (N++M) a.toNat=qX N a.toNat:=wW (by have:=h.1;have:=h.2.1;omega);refine cJ.test _ _ _ _ h1 ⟨h.1,Y8 h.2.1,?_⟩;rw[e];exact h.2.2
 ·intro k t u x N a h1 h _ ih
  have e:qX (N++M) a.toNat=qX N a.toNat:=wW (by have:=h.1;have:=h.2.1;omega);have el:lf (N++M) a=lf N a:=by unfold lf;rw[e]
  exact cJ.neg _ _ _ _ _ _ h1 ⟨h.1,Y8 h.2.1,by rw[e];exact h.2.2.1,by rw[el];exact h.2.2.2⟩ (by rw[el];exact ih)
 ·intro k o u c x N a h1 h2 _ ih;exact cJ.br _ _ _ _ _ _ _ h1 h2 ih
 ·intro k u t v x y N a h1 h2 h _ _ ihu ihv
  have e:qX (N++M) a.toNat=qX N a.toNat:=wW (by have:=h.1;have:=h.2.1;omega);have el:lf (N++M) a=lf N a:=by unfold lf;rw[e]
  have er:rg (N++M) a=rg N a:=by unfold rg;rw[e]
  exact cJ.and _ _ _ _ _ _ _ _ h1 h2 ⟨h.1,Y8 h.2.1,by rw[e];exact h.2.2.1,by rw[el];exact h.2.2.2.1,by rw[er];exact h.2.2.2.2⟩ (by rw[el];exact ihu) (by rw[er];exact ihv)
 ·intro k u t v x y N a h1 h2 h _ _ ihu ihv
  have e:qX (N++M) a.toNat=qX N a.toNat:=wW (by have:=h.1;have:=h.2.1;omega);have el:lf (N++M) a=lf N a:=by unfold lf;rw[e]
  have er:rg (N++M) a=rg N a:=by unfold rg;rw[e]
  exact cJ.or _ _ _ _ _ _ _ _ h1 h2 ⟨h.1,Y8 h.2.1,by rw[e];exact h.2.2.1,by rw[el];exact h.2.2.2.1,by rw[er];exact h.2.2.2.2⟩ (by rw[el];exact ihu) (by rw[er];exact ihv)
theorem Gr.kind{k:Nat}{u:zJ}{x:Bs × Int}{N:List yB}{a:Int}(h:Gr k u x N a):((qX N a.toNat).kind=1/\x.2=2)\/((qX N a.toNat).kind=2/\x.2=1)\/(¬(qX N a.toNat).kind=1/\¬(qX N a.toNat).kind=2/\x.2=0):=by
 refine Gr.ind (R:=fun _ _ x N a=>((qX N a.toNat).kind=1/\x.2=2)\/((qX N a.toNat).kind=2/\x.2=1)\/(¬(qX N a.toNat).kind=1/\¬(qX N a.toNat).kind=2/\x.2=0)) ?_ ?_ ?_ ?_ ?_ h
 ·intro k u N a _ h;have h3:=h.2.2.1;exact .inr (.inr ⟨by omega,by omega,rfl⟩)
 ·intro k t u x N a _ h _ _;have h3:=h.2.2.1;exact .inr (.inr ⟨by omega,by omega,rfl⟩)
 ·intro k o u c x N a _ _ _ ih;exact ih
 ·intro k u t v x y N a _ _ h _ _ _ _;exact .inr (.inl ⟨h.2.2.1,rfl⟩)
 ·intro k u t v x y N a _ _ h _ _ _ _;exact .inl ⟨h.2.2.1,rfl⟩
theorem C1{k:Nat}{u:zJ}{x:Bs × Int}{N:List yB}{a:Int}(hr:Gr k u x N a){f:Nat->fW->fW}(hf:∀st,f a.toNat st=xD x.1 st)(st:fW):C2 N f a.toNat st=xD (if x.2=2 then Un x.1 else x.1) st:=by
 unfold C2;rcases hr.kind with ⟨h1,h2⟩|⟨h1,h2⟩|⟨h1,_,h2⟩
 ·rw[if_pos h1,if_pos h2,hf,YG]
 ·rw[if_neg (by omega),if_neg (by omega),hf]
 ·rw[if_neg h1,if_neg (by omega),hf]
theorem zDQ{k:Nat}{u:zJ}{x:Bs × Int}{N:List yB}{a:Int}(hr:Gr k u x N a){f:Nat->fW->fW}(hf:∀st,f a.toNat st=xD x.1 st)(st:fW):zDR N f a.toNat st=xD (if 0<x.2 then Un x.1 else x.1) st:=by
 unfold zDR;rcases hr.kind with ⟨h1,h2⟩|⟨h1,h2⟩|⟨h1,h3,h2⟩
 ·rw[if_pos (.inl h1),if_pos (by omega),hf,YG]
 ·rw[if_pos (.inr h1),if_pos (by omega),hf,YG]
 ·rw[if_neg (by omega),if_neg (by omega),hf]
theorem w_gr{k:Nat}{u:zJ}{x:Bs × Int}{N:List yB}{a:Int}(h:Gr k u x N a)(m:Nat)(st:fW)(hm:a.toNat<m):nM N m a.toNat st=xD x.1 st:=by
 refine Gr.ind (R:=fun _ _ x N a=>∀(m:Nat) (st:fW),a.toNat<m->nM N m a.toNat st=xD x.1 st) ?_ ?_ ?_ ?_ ?_ h m st hm
 ·intro k u N a hk h m st hm
  obtain⟨m,rfl⟩:∃j,m=j+1:=⟨m-1,by omega⟩;have h3:=h.2.2.1;rw[nM,if_neg (by omega),if_neg (by omega),if_neg (by omega),h.2.2.2.1,oI hk.1]
 ·intro k t u x N a _ h hg ih m st hm
  obtain⟨m,rfl⟩:∃j,m=j+1:=⟨m-1,by omega⟩;have h3:=h.2.2.1;have hb:=hg.bound;have hl:=h.2.2.2;rw[nM,if_neg (by omega),if_neg (by omega),if_pos h3,zDQ hg (fun st=>ih m st (by omega)),<-lG,J8];rfl
 ·intro k o u c x N a _ _ _ ih;exact ih
 ·intro k u t v x y N a _ _ h hu hv ihu ihv m st hm
  obtain⟨m,rfl⟩:∃j,m=j+1:=⟨m-1,by omega⟩;obtain⟨h1,h2,h3,h4,h5⟩:=h;have hb:=hu.bound;have hc:=hv.bound;rw[nM,if_neg (by omega),if_pos h3,C1 hv (fun st=>ihv m st (by omega)),C1 hu (fun st=>ihu m st (by omega)),<-lG,<-lG,Ch];simp[yL]
 ·intro k u t v x y N a _ _ h hu hv ihu ihv m st hm
  obtain⟨m,rfl⟩:∃j,m=j+1:=⟨m-1,by omega⟩;obtain⟨h1,h2,h3,h4,h5⟩:=h;have hb:=hu.bound;have hc:=hv.bound;rw[nM,if_pos h3,ihu m _ (by omega),ihv m _ (by omega),<-lG,<-lG,orT];simp[vK]
theorem Y3{c:UInt8}(h:so c=2):48<=c.toNat/\c.toNat<=57:=by
 unfold so tQ at h;split at h
 ·omega
 ·split at h
  ·omega
  ·split at h <;> omega
def Qd:Nat->List Nat->Nat
 | a,[]=>a
 | a,d::r=>Qd (10*a+d) r
def ZE(s:Bs):List Nat:=s.map fun c=>c.toNat-48
theorem Qy(a:Int)(c:UInt8)(r:Bs):xH a (c::r)=xH (10*a+((c.toNat:Int)-48)) r:=rfl
theorem zDA(s:Bs):∀(a:Nat),(∀c∈s,so c=2)->xH a s=Qd a (ZE s):=by
 induction s with
 | nil=>intro a _;rfl
 | cons c r ih =>
   intro a h;have h1:=Y3 (h c (List.mem_cons_self ..));have h2:=ih (10*a+(c.toNat-48)) (fun x hx=>h x (List.mem_cons_of_mem _ hx));unfold ZE at h2 ⊢;rw[Qy,List.map_cons,Qd,<-h2];congr 1;omega
theorem jq(s:List Nat):∀(a:Nat),(∀d∈s,d<=9)->Qd a s+1<=(a+1)*10 ^ s.length:=by
 induction s with
 | nil=>intro a _;simp[Qd]
 | cons d r ih =>
   intro a h;have h1:=h d (List.mem_cons_self ..);rw[Qd,List.length_cons,Nat.pow_succ];have h2:=ih (10*a+d) (fun x hx=>h x (List.mem_cons_of_mem _ hx));refine Nat.le_trans h2 ?_;have h3:(10*a+d+1)<=(a+1)*10:=by omega
   have h4:=Nat.mul_le_mul_right (10 ^ r.length) h3;rw[Nat.mul_assoc]at h4;rw[Nat.mul_comm (10 ^ r.length) 10];exact h4
theorem Db(s:Bs)(h:∀c∈s,so c=2):∀d∈ZE s,d<=9:=by
 intro d hd;unfold ZE at hd;obtain⟨c,hc,rfl⟩:=List.mem_map.1 hd;have h1:=Y3 (h c hc);omega
theorem qc{u d:Nat}(h:1<=u)(hd:d<10):Lib.decDigits (10*u+d)=Lib.decDigits u++[UInt8.ofNat (48+d)]:=by
 rw[Lib.decDigits,dif_neg (by omega),show (10*u+d)/10=u by omega,show (10*u+d)%10=d by omega]
theorem Gk{c:UInt8}(h:48<=c.toNat):UInt8.ofNat (48+(c.toNat-48))=c:=by
 rw[show 48+(c.toNat-48)=c.toNat by omega];simp
theorem zBQ(s:List Nat):∀(a:Nat),1<=a->(∀d∈s,d<=9)->Lib.decDigits (Qd a s)=Lib.decDigits a++s.map (fun d=>UInt8.ofNat (48+d)):=by
 induction s with
 | nil=>intro a _ _;simp[Qd]
 | cons d r ih =>
   intro a ha h;have h1:=h d (List.mem_cons_self ..);rw[Qd,ih _ (by omega) (fun x hx=>h x (List.mem_cons_of_mem _ hx)),qc ha (by omega)];simp
theorem FW(s:Bs)(h:∀c∈s,so c=2):(ZE s).map (fun d=>UInt8.ofNat (48+d))=s:=by
 induction s with
 | nil=>rfl
 | cons c r ih =>
   have h1:=Y3 (h c (List.mem_cons_self ..));have h2:=ih (fun x hx=>h x (List.mem_cons_of_mem _ hx));unfold ZE at h2 ⊢;rw[List.map_cons,List.map_cons,h2,Gk h1.1]
def VT(s:Bs):Prop:=s≠[]/\(so (s.getD 0 0)=2->∀c∈s,so c=2)
theorem Xk{s:Bs}(h:VT s)(hc:zX s=zV):(0<=xH 0 s/\xH 0 s<=9999)/\Lib.itoa (xH 0 s)=s:=by
 have hk:=(mM s).2 hc;unfold vH at hk;split at hk
 ·split at hk
  ·exact absurd hk (by decide)
  ·split at hk <;> exact absurd hk (by decide)
 ·split at hk
  ·rename_i _ h2
   split at hk
   ·exact absurd hk (by decide)
   ·rename_i h3
    have hd:=h.2 h2;have e:=zDA s 0 hd;have hl:=jq (ZE s) 0 (Db s hd);have hln:(ZE s).length=s.length:=by simp[ZE]
    rw[hln]at hl;have h4:s.length<=4:=by omega
    have h5:10 ^ s.length<=10 ^ 4:=Nat.pow_le_pow_right (by decide) h4;refine⟨⟨by rw[show (0:Int)=((0:Nat):Int) from rfl,e];omega,by rw[show (0:Int)=((0:Nat):Int) from rfl,e];omega⟩,?_⟩;rw[show (0:Int)=((0:Nat):Int) from rfl,e,Lib.itoa,if_neg (by omega),Int.toNat_natCast];have hb:=FW s hd;have hle:=Db s hd
    cases hs:s with
    | nil=>exact absurd hs h.1
    | cons c r =>
      rw[hs]at hd hb hle h3;have h6:=Y3 (hd c (List.mem_cons_self ..));have ed:ZE (c::r)=(c.toNat-48)::ZE r:=by unfold ZE;rw[List.map_cons]
      rw[ed]at hb hle ⊢;rw[Qd];generalize hz:c.toNat-48=z at hb hle ⊢;by_cases hz0:z=0
      ·have hc0:c=48:=by
        apply UInt8.toNat_inj.1;show c.toNat=48;omega
       have hr:r=[]:=by
        cases r with
        | nil=>rfl
        | cons x y=>exact absurd (Or.inr ⟨by simp,by simpa using hc0⟩) h3
       subst hr;rw[hz0,hc0];show Lib.decDigits 0=[48];rw[Lib.decDigits,dif_pos (by omega)];rfl
      ·rw[zBQ (ZE r) _ (by omega) (fun x hx=>hle x (List.mem_cons_of_mem _ hx)),Lib.decDigits,dif_pos (by have:=hle z (List.mem_cons_self ..);omega),show 10*0+z=z by omega]
       rw[List.map_cons]at hb;exact hb
  ·split at hk <;> exact absurd hk (by decide)
theorem D1(k:Int)(l:Bs):∀c∈l.take (jX k l),so c=k:=by
 induction l with
 | nil=>intro c h;simp at h
 | cons x r ih =>
   intro c h;rw[jX]at h;split at h
   ·rename_i hx
    rw[List.take_succ_cons]at h;rcases List.mem_cons.1 h with rfl|h
    ·exact hx
    ·exact ih c h
   ·simp at h
theorem DF(n:Nat):∀(l:Bs) (p:Nat),∀t∈jS n l p,VT t.2:=by
 induction n with
 | zero=>intro l p t h;simp[jS]at h
 | succ n ih =>
   intro l p t h;rw[jS]at h;split at h
   ·simp at h
   ·split at h
    ·exact ih _ _ t h
    ·rename_i h0 _
     rcases List.mem_cons.1 h with rfl|h
     ·cases l with
      | nil=>exact absurd rfl h0
      | cons c r =>
        have hp:=nU (c::r);obtain⟨m,hm⟩:∃m,vX (c::r)=m+1:=⟨vX (c::r)-1,by omega⟩;simp only[hm,List.take_succ_cons];refine⟨by simp,?_⟩;intro hs;have hs':so c=2:=hs
        have e:m=jX 2 r:=by
         unfold vX at hm;simp only[List.getD_cons_zero,hs',List.drop_succ_cons,List.drop_zero]at hm;rw[if_neg (by decide)]at hm;omega
        intro x hx;rcases List.mem_cons.1 hx with rfl|hx
        ·exact hs'
        ·exact D1 2 r x (by rw[<-e];exact hx)
     ·exact ih _ _ t h
def fO(ts:zJ):Prop:=∀t∈ts,VT t.2
theorem Qz(l:Bs):fO (zP l 0):=DF _ _ _
theorem fO.at'{ts:zJ}(h:fO ts){i:Nat}(hi:i<ts.length):VT (tA ts i):=by
 unfold tA;rw[List.getD,List.getElem?_eq_getElem hi];exact h _ (List.getElem_mem hi)
theorem Gg:∀c∈kS,tT c/\c.isEmpty=false:=by decide
def bE:Bs:=[102,97,99,116]
def Jw:Bs:=[104,97,115]
def zh:Bs:=[116,104,97,110]
def Zb:Bs:=[97,108,119,97,121,115]
theorem qe(P:List PT)(i:Nat):vT P (i,true)=([],(i,true)):=by
 unfold vT;split <;> rfl
def zFT(x:yB)(u:zJ):Prop:=(4<=x.kind/\x.kind<=7)/\(0<=x.num/\x.num<=9999)/\(∀st,Ko x st=kP u st)/\zCZ x u
abbrev TT(ts:zJ)(i:Nat):Nat × Bs:=ts.getD i (0,[])
theorem Bj:jI bE=[xG,yW,Zb,Jw,yP]:=by decide
theorem DU:jI Jw=[yP]:=by decide
theorem Bg:jI zh=[yP,zV]:=by decide
theorem js{c:Bs}{op:Int}(h:c∈kS):zT uN c op=zh/\opn c op=op:=by
 simp only[kS,List.mem_cons,List.not_mem_nil,or_false]at h;rcases h with rfl|rfl|rfl|rfl|rfl|rfl <;> exact⟨rfl,rfl⟩
def zCA(ts:zJ)(len i:Nat)(op:Int)(r:yB × St):Prop :=
 (r.2.2=true/\FA ts len i bE op=((yO (pp ts len) r.2.1).p:Int)) \/
 (r.2.2=false/\i<r.2.1/\r.2.1<=ts.length/\FA ts len i bE op=FA ts len r.2.1 qB op/\∃u,ts.drop i=u++ts.drop r.2.1/\Ju u/\zFT r.1 u/\rJ u (KI r.1))
theorem iL:∀c∈kS,c≠yP/\c≠[104,97,115]:=by decide
theorem wU{p nx:Bs}(hp:p≠[104,97,115])(h:p∈kS\/nx∈kS):mT p nx=2:=by unfold mT;rw[if_neg hp,if_pos h]
theorem J9{p nx:Bs}(hp:neut p)(h:nx ∉ kS):mT p nx=3:=by unfold mT;rw[if_neg hp.1,if_neg (by rintro(h' | h');exact hp.2 h';exact h h')]
theorem GT{ts:zJ}{len i:Nat}(zGM:fO ts)(h:i<=ts.length)(op:Int)(hn:cA ts i≠xG)(ho:cA ts i≠yW):zCA ts len i op (vF (pp ts len) (i,false)):=by
 rcases cU (len:=len) h (t:=Zb) (by decide) with ⟨hc,hi,e⟩|⟨hc,e⟩
 ·have hw:=(cP (by decide) hc).2
  have e':vF (pp ts len) (i,false)=(⟨4,0,0,[],[],[],0⟩,(i+1,false)):=by
   unfold Zb at e;simp only[vF,e]
  rw[e'];refine .inr ⟨rfl,Nat.lt_succ_self _,hi,uT hi hc rfl (by decide) rfl,[TT ts i],zO ts i hi,⟨by simp,?_⟩,⟨by simp,by simp,?_,.inl ⟨rfl,_,rfl,hc⟩⟩,?_⟩
  ·intro t ht;obtain rfl:=List.mem_singleton.1 ht
   show tT (cA ts i);rw[hc];decide
  ·intro st;show xD _ st=xD (tA ts i) st;rw[hw];rfl
  ·intro p nx _ _
   have h8:zX (TT ts i).2=Zb:=hc;rw[qN,h8,if_neg (by decide),qN];rfl
 unfold Zb at e;rcases cU (len:=len) h (t:=Jw) (by decide) with ⟨hc2,hi,e2⟩|⟨hc2,e2⟩
 ·have hw:=(cP (by decide) hc2).2
  unfold Jw at e2;have hf:FA ts len i bE op=FA ts len (i+1) Jw op:=uT hi hc2 rfl (by decide) rfl;rcases fG (len:=len) (show i+1<=ts.length from hi) with ⟨hc3,hi3,e3⟩|⟨hc3,e3⟩
  ·have e':vF (pp ts len) (i,false)=(⟨5,0,0,tA ts (i+1),[],[],0⟩,(i+1+1,false)):=by
    simp only[vF,e,e2,e3]
   rw[e'];refine .inr ⟨rfl,(by show i<i+1+1;omega),hi3,hf.trans (uT hi3 hc3 rfl (by decide) rfl),[TT ts i,TT ts (i+1)],?_,⟨by simp,?_⟩,⟨by simp,by simp,?_,.inr (.inl ⟨rfl,_,_,rfl,hc2,hc3,rfl⟩)⟩,?_⟩
   ·rw[zO ts i hi,zO ts (i+1) hi3];rfl
   ·intro t ht
    simp only[List.mem_cons,List.not_mem_nil,or_false]at ht;rcases ht with rfl|rfl
    ·show tT (cA ts i);rw[hc2];decide
    ·show tT (cA ts (i+1));rw[hc3];decide
   ·intro st;show xD _ (xD _ st)=xD (tA ts (i+1)) (xD (tA ts i) st);rw[hw];rfl
   ·intro p nx _ _
    have h8:zX (TT ts i).2=Jw:=hc2;have h9:zX (TT ts (i+1)).2=yP:=hc3;rw[qN,h8,if_neg (by decide),qN,h9,if_pos rfl,qN];show []++([(mT Jw nx,tA ts (i+1))]++[])=_;rw[show mT Jw nx=1 from if_pos rfl];rfl
  ·have e':(vF (pp ts len) (i,false)).2=(i+1,true):=by
    simp only[vF,e,e2,e3]
   refine .inl ⟨by rw[e'],?_⟩;rw[e',hf];exact nL hi (mS (by decide) (by decide) (by rw[DU];simpa using hc3)) (.inr (by decide))
 unfold Jw at e2;rcases fG (len:=len) h with ⟨hc3,hi3,e3⟩|⟨hc3,e3⟩
 ·have hf:FA ts len i bE op=FA ts len (i+1) uN op:=uT hi3 hc3 rfl (by decide) rfl
  rcases zEH (len:=len) (show i+1<=ts.length from hi3) with ⟨hc4,hi4,hw4,e4⟩|⟨hc4,e4⟩
  ·obtain⟨n1,n2⟩:=js (op:=op) hc4
   obtain⟨q1,q2⟩:=Gg _ hc4;have hf2:FA ts len i bE op=FA ts len (i+1+1) zh op:=hf.trans (uT hi4 rfl n1 (by decide) n2);have hi5:i+1+1<=ts.length:=hi4;rcases wP (len:=len) hi5 with ⟨hc6,hi6,e6⟩|⟨hc6,e6⟩
   ·have e5:=YB (len:=len) hi5 false
    rw[decide_eq_true hc6]at e5
    have e':vF (pp ts len) (i,false)=(⟨7,0,0,tA ts i,cA ts (i+1),[],xH 0 (tA ts (i+1+1))⟩,(i+1+1+1,false)):=by
     simp only[vF,e,e2,e3,e4,q2,e5,e6]
    obtain⟨v1,v2⟩:=Xk (zGM.at' hi6) hc6;rw[e'];refine .inr ⟨rfl,(by show i<i+1+1+1;omega),hi6,hf2.trans (uT hi6 hc6 rfl (by decide) rfl),[TT ts i,TT ts (i+1),TT ts (i+1+1)],?_,⟨by simp,?_⟩,⟨by simp,v1,?_,.inr (.inr (.inr ⟨rfl,_,_,_,rfl,hc3,rfl,(by show tA ts (i+1)∈kS;rw[hw4];exact hc4),hw4.symm,.inl ⟨hc6,rfl,rfl⟩⟩))⟩,?_⟩
    ·rw[zO ts i hi3,zO ts (i+1) hi4,zO ts (i+1+1) hi6];rfl
    ·intro t ht
     simp only[List.mem_cons,List.not_mem_nil,or_false]at ht;rcases ht with rfl|rfl|rfl
     ·show tT (cA ts i);rw[hc3];decide
     ·exact q1
     ·show tT (cA ts (i+1+1));rw[hc6];decide
    ·intro st
     show eV (xH 0 (tA ts (i+1+1))) (xD (cA ts (i+1)) (xD (tA ts i) st))=xD (tA ts (i+1+1)) (xD (tA ts (i+1)) (xD (tA ts i) st));rw[eV,v2,hw4]
    ·intro p nx hp _
     have h7:zX (TT ts i).2=yP:=hc3;have h8:zX (TT ts (i+1)).2≠yP:=(iL _ hc4).1;have h9:zX (TT ts (i+1+1)).2=zV:=hc6;rw[qN,h7,if_pos rfl,qN,if_neg h8,qN,h9,if_neg (by decide),qN];show [(mT p (cA ts (i+1)),tA ts i)]++([]++([]++[]))=_;rw[wU hp.1 (.inr hc4)];rfl
   ·have e5:=YB (len:=len) hi5 false
    rw[decide_eq_false hc6]at e5;rcases fG (len:=len) hi5 with ⟨hc7,hi7,e7⟩|⟨hc7,e7⟩
    ·have e':vF (pp ts len) (i,false)=(⟨7,0,0,tA ts i,cA ts (i+1),tA ts (i+1+1),0⟩,(i+1+1+1,false)):=by
      simp only[vF,e,e2,e3,e4,q2,e5,e7]
     have zG7:(tA ts (i+1+1)).isEmpty=false:=by
      have:=(zGM.at' hi7).1
      cases hx:tA ts (i+1+1) with
      | nil=>exact absurd hx this
      | cons a b=>rfl
     rw[e'];refine .inr ⟨rfl,(by show i<i+1+1+1;omega),hi7,hf2.trans (uT hi7 hc7 rfl (by decide) rfl),[TT ts i,TT ts (i+1),TT ts (i+1+1)],?_,⟨by simp,?_⟩,⟨by simp,by simp,?_,.inr (.inr (.inr ⟨rfl,_,_,_,rfl,hc3,rfl,(by show tA ts (i+1)∈kS;rw[hw4];exact hc4),hw4.symm,.inr ⟨hc7,rfl,(zGM.at' hi7).1⟩⟩))⟩,?_⟩
     ·rw[zO ts i hi3,zO ts (i+1) hi4,zO ts (i+1+1) hi7];rfl
     ·intro t ht
      simp only[List.mem_cons,List.not_mem_nil,or_false]at ht;rcases ht with rfl|rfl|rfl
      ·show tT (cA ts i);rw[hc3];decide
      ·exact q1
      ·show tT (cA ts (i+1+1));rw[hc7];decide
     ·intro st
      show Ko ⟨7,0,0,tA ts i,cA ts (i+1),tA ts (i+1+1),0⟩ st=xD (tA ts (i+1+1)) (xD (tA ts (i+1)) (xD (tA ts i) st));rw[hw4];unfold Ko;simp only[zG7];rfl
     ·intro p nx hp _
      have h7:zX (TT ts i).2=yP:=hc3;have h8:zX (TT ts (i+1)).2≠yP:=(iL _ hc4).1;have h9:zX (TT ts (i+1+1)).2=yP:=hc7;rw[qN,h7,if_pos rfl,qN,if_neg h8,qN,h9,if_pos rfl,qN];show [(mT p (cA ts (i+1)),tA ts i)]++([]++([(mT (cA ts (i+1)) nx,tA ts (i+1+1))]++[]))=(2,tA ts i)::(if tA ts (i+1+1)=[] then [] else [(2,tA ts (i+1+1))]);rw[wU hp.1 (.inr hc4),wU (iL _ hc4).2 (.inl hc4),if_neg (zGM.at' hi7).1];rfl
    ·have e':(vF (pp ts len) (i,false)).2=(i+1+1,true):=by
      simp only[vF,e,e2,e3,e4,q2,e5,e7]
     refine .inl ⟨by rw[e'],?_⟩;rw[e',hf2];exact nL hi5 (mS (by decide) (by decide) (by rw[Bg];simp[hc6,hc7])) (.inr (by decide))
  ·have e':vF (pp ts len) (i,false)=(⟨6,0,0,tA ts i,[],[],0⟩,(i+1,false)):=by
    simp only[vF,e,e2,e3,e4,List.isEmpty_nil]
   rw[e'];refine .inr ⟨rfl,Nat.lt_succ_self _,hi3,hf.trans (j7 hc4),[TT ts i],zO ts i hi3,⟨by simp,?_⟩,⟨by simp,by simp,?_,.inr (.inr (.inl ⟨rfl,_,rfl,hc3,rfl⟩))⟩,?_⟩
   ·intro t ht;obtain rfl:=List.mem_singleton.1 ht
    show tT (cA ts i);rw[hc3];decide
   ·intro st;rfl
   ·intro p nx hp hx
    have h7:zX (TT ts i).2=yP:=hc3;rw[qN,h7,if_pos rfl,qN];show [(mT p nx,tA ts i)]++[]=_;rw[J9 hp hx];rfl
 ·have e':(vF (pp ts len) (i,false)).2=(i,true):=by
   simp only[vF,e,e2,e3,qe,List.isEmpty_nil]
  refine .inl ⟨by rw[e'],?_⟩;rw[e'];exact nL h (mS (by decide) (by decide) (by rw[Bj];simp[hn,ho,hc,hc2,hc3])) (.inr (by decide))
theorem wV(N:List yB)(z:yB):qX (N++[z]) N.length=z:=by
 unfold qX;simp[List.getD]
def UZ(z:yB)(a:Int):Prop :=
 (z.kind=1->0<=z.left/\z.left<a/\0<=z.right/\z.right<a) /\
 (z.kind=2->0<=z.left/\z.left<a/\0<=z.right/\z.right<a) /\
 (z.kind=3->0<=z.left/\z.left<a) /\
 (¬z.kind=1->¬z.kind=2->¬z.kind=3->(4<=z.kind/\z.kind<=7)/\0<=z.num/\z.num<=9999)
theorem dF.add{N:List yB}{z:yB}(h:dF N)(hz:UZ z N.length):dF (N++[z]):=by
 intro a ha;rcases Nat.lt_or_ge a N.length with h1|h1
 ·rw[wW h1];exact h a h1
 ·have e:a=N.length:=by rw[List.length_append,List.length_singleton]at ha;omega
  subst e;rw[wV];exact hz
theorem aU:dF []:=by intro a ha;exact absurd ha (by simp)
def eH(u:zJ)(y:Int × Int):Prop:=∀n,u.length<n->yG n u=y
theorem jh{u:zJ}(h:Ju u):eH u (1,0):=by
 intro n hn;obtain⟨n,rfl⟩:∃m,n=m+1:=⟨n-1,by omega⟩;have e1:yN u vK = -1:=tP vK (.inl rfl) u h.2 0 0 (-1);have e2:yN u yL = -1:=tP yL (.inr rfl) u h.2 0 0 (-1)
 have hp:tT (zX (u.getD 0 (0,[])).2):=by
  obtain⟨h1,h2⟩:=h
  cases u with
  | nil=>exact absurd rfl h1
  | cons t r=>exact h2 t (List.mem_cons_self ..)
 rw[yG,e1,e2,if_neg (by omega),if_neg (by omega),if_neg hp.2.2.2.2.2,if_neg hp.2.2.2.1]
theorem zD5{t:Nat × Bs}{u:zJ}{x:Bs × Int}{N:List yB}{a:Int}{y:Int × Int}(h1:zX t.2=xG)(hW:Gr 0 (t::u) x N a)(hy:eH u y):eH (t::u) (y.1,y.2+1):=by
 intro n hn;obtain⟨n,rfl⟩:∃m,n=m+1:=⟨n-1,by omega⟩;have e1:yN (t::u) vK = -1:=hW.out0 vK (.inl rfl) 0 (-1);have e2:yN (t::u) yL = -1:=hW.out0 yL (.inr rfl) 0 (-1);have hc:zX ((t::u).getD 0 (0,[])).2=xG:=h1;rw[yG,e1,e2,if_neg (by omega),if_neg (by omega),if_pos hc];simp only[List.drop_succ_cons,List.drop_zero,hy n (by simp at hn;omega)]
theorem zFD{o c:Nat × Bs}{u:zJ}{x:Bs × Int}{N:List yB}{a:Int}{k:Nat}{y:Int × Int}(h1:zX o.2=yW)(h2:zX c.2=vD)(h3:Gr k u x N a)(hy:eH u y):eH (o::(u++[c])) (y.1,y.2+1):=by
 intro n hn;obtain⟨n,rfl⟩:∃m,n=m+1:=⟨n-1,by omega⟩;have e1:yN (o::(u++[c])) vK = -1:=nJ vK (.inl rfl) h1 h2 h3 0 (-1);have e2:yN (o::(u++[c])) yL = -1:=nJ yL (.inr rfl) h1 h2 h3 0 (-1);have hc:zX ((o::(u++[c])).getD 0 (0,[])).2=yW:=h1;have hc':¬zX ((o::(u++[c])).getD 0 (0,[])).2=xG:=by rw[hc];decide
 rw[yG,e1,e2,if_neg (by omega),if_neg (by omega),if_neg hc',if_pos hc];have e3:((o::(u++[c])).drop 1).take ((o::(u++[c])).length-2)=u:=by simp
 rw[e3,hy n (by simp at hn;omega)]
theorem zD6{u v:zJ}{t:Nat × Bs}{x y:Bs × Int}{N:List yB}{a b:Int}{p q:Int × Int}(h2:zX t.2=yL)(h4:Gr 1 u x N a)(h5:Gr 0 v y N b)(hp:eH u p)(hq:eH v q):eH (u++t::v) (pK p q):=by
 intro n hn;obtain⟨n,rfl⟩:∃m,n=m+1:=⟨n-1,by omega⟩
 have e1:yN (u++t::v) vK = -1:=by
  unfold yN;rw[kL,h4.op,uX,h2,dJ,if_neg (by rintro⟨_,h⟩;exact absurd h (by decide)),h5.out1 (by decide),h4.out1 (Nat.le_refl _)]
 have e2:yN (u++t::v) yL=u.length:=by
  unfold yN;rw[kL,h4.op,uX,h2,dJ,if_pos ⟨rfl,rfl⟩,h5.out0 yL (.inr rfl)];omega
 have hl:(u++t::v).length=u.length+1+v.length:=by simp;omega
 have t1:(u++t::v).take u.length=u:=by simp
 have t2:(u++t::v).drop (u.length+1)=v:=by simp
 rw[yG,e1,e2,if_neg (by omega),if_pos (Int.natCast_nonneg _),Int.toNat_natCast,t1,t2,hp n (by omega),hq n (by omega)]
theorem zFC{u v:zJ}{t:Nat × Bs}{x y:Bs × Int}{N:List yB}{a b:Int}{p q:Int × Int}(h2:zX t.2=vK)(h4:Gr 2 u x N a)(h5:Gr 1 v y N b)(hp:eH u p)(hq:eH v q):eH (u++t::v) (pK p q):=by
 intro n hn;obtain⟨n,rfl⟩:∃m,n=m+1:=⟨n-1,by omega⟩
 have e2:yN (u++t::v) vK=u.length:=by
  unfold yN;rw[kL,h4.op,uX,h2,iG,if_pos ⟨rfl,rfl⟩,h5.out1 (Nat.le_refl _)];omega
 have hl:(u++t::v).length=u.length+1+v.length:=by simp;omega
 have t1:(u++t::v).take u.length=u:=by simp
 have t2:(u++t::v).drop (u.length+1)=v:=by simp
 rw[yG,e2,if_pos (Int.natCast_nonneg _),Int.toNat_natCast,t1,t2,hp n (by omega),hq n (by omega)]
def Wt(q:GS)(d:Int)(q':GS)(u:zJ):Prop :=
 ∃y L,eH u y/\0<=y.2/\q'.tests=q.tests+y.1/\(q.dep<=q'.dep/\d+y.2<=q'.dep/\(q'.dep=q.dep\/q'.dep=d+y.2))/\rJ u L/\jV q'.nd=jV q.nd++L
def Uf(ts:zJ)(len k i:Nat)(op d:Int)(q:GS)(r:Int × GS):Prop :=
 (r.2.s.2=true/\FA ts len i bE op=((yO (pp ts len) r.2.s.1).p:Int)) \/
 (r.2.s.2=false/\i<r.2.s.1/\r.2.s.1<=ts.length/\FA ts len i bE op=FA ts len r.2.s.1 qB op/\(∃M,r.2.nd=q.nd++M)/\dF r.2.nd /\
  (1<=k->cA ts r.2.s.1≠yL)/\(2<=k->cA ts r.2.s.1≠vK) /\
  ∃u x,Gr k u x r.2.nd r.1/\ts.drop i=u++ts.drop r.2.s.1/\Wt q d r.2 u)
theorem mU(P:List PT)(item:GS->Int × GS)(tok:Bs)(kind:Int)(k:Nat)(left:Int)(q:GS)(h:q.s.2=true):(mV P item tok kind k left q).2.s=q.s:=by
 cases k with
 | zero=>rfl
 | succ k =>
   obtain⟨⟨i,f⟩,nd,te,de⟩:=q;obtain rfl:f=true:=h;rw[mV];rfl
structure ky(tok:Bs)(kind:Int)(j:Nat):Prop where
 kw:tok∈jf
 next:∀op,zT qB tok op=bE
 opn:∀op,opn tok op=op
 node:∀a l r,0<=l->l<a->0<=r->r<a->UZ ⟨kind,l,r,[],[],[],0⟩ a
 make:∀N u t v x y l r,zX t.2=tok->l<(N.length:Int)->r<(N.length:Int)->Gr (j+1) u x (N++[⟨kind,l,r,[],[],[],0⟩]) l->Gr j v y (N++[⟨kind,l,r,[],[],[],0⟩]) r ->
  ∃z,Gr (j+1) (u++t::v) z (N++[⟨kind,l,r,[],[],[],0⟩]) N.length
 wt:∀u t v x y N a b p q,zX t.2=tok->Gr (j+1) u x N a->Gr j v y N b->eH u p->eH v q->eH (u++t::v) (pK p q)
 neut:tok≠yP/\neut tok
 kind:kind=1\/kind=2
 exits:∀c,c≠tok->(1<=j->c≠yL)->(1<=j+1->c≠yL)/\(2<=j+1->c≠vK)
theorem VJ(kind l r:Int)(N:List yB)(hl:l<(N.length:Int))(hr:r<(N.length:Int)):j9 kind (N++[⟨kind,l,r,[],[],[],0⟩]) N.length/\lf (N++[⟨kind,l,r,[],[],[],0⟩]) N.length=l/\rg (N++[⟨kind,l,r,[],[],[],0⟩]) N.length=r:=by
 have e:qX (N++[⟨kind,l,r,[],[],[],0⟩]) (N.length:Int).toNat=⟨kind,l,r,[],[],[],0⟩:=by rw[Int.toNat_natCast];exact wV _ _
 have el:lf (N++[⟨kind,l,r,[],[],[],0⟩]) N.length=l:=by unfold lf;rw[e]
 have er:rg (N++[⟨kind,l,r,[],[],[],0⟩]) N.length=r:=by unfold rg;rw[e]
 exact⟨⟨by omega,by simp only[List.length_append,List.length_singleton];omega,by rw[e],by rw[el];exact hl,by rw[er];exact hr⟩,el,er⟩
theorem Fy:ky yL 2 0:={
 kw:=by decide
 next:=fun op=>by rw[aQ,if_neg (by rintro(⟨h,_⟩|⟨h,_⟩) <;> exact absurd h (by decide))];decide
 opn:=dJ
 node:=fun a l r h1 h2 h3 h4=>⟨fun e=>absurd (show (2:Int)=1 from e) (by decide),fun _=>⟨h1,h2,h3,h4⟩,fun e=>absurd (show (2:Int)=3 from e) (by decide),fun _ e=>absurd rfl e⟩
 make:=fun N u t v x y l r hc hl hr h1 h2=>by
  obtain⟨hb,el,er⟩:=VJ 2 l r N hl hr;exact⟨Ch x y,cJ.and _ _ _ _ _ _ _ _ (Nat.le_refl _) hc hb (by rw[el];exact h1) (by rw[er];exact h2)⟩
 wt:=fun u t v x y N a b p q h1 h2 h3=>zD6 h1 h2 h3
 neut:=⟨by decide,by decide,by decide⟩
 kind:=.inr rfl
 exits:=fun c h _=>⟨fun _=>h,fun h=>absurd h (by decide)⟩ }
theorem vx:ky vK 1 1:={
 kw:=by decide
 next:=fun op=>by rw[aQ,if_neg (by rintro(⟨h,_⟩|⟨h,_⟩) <;> exact absurd h (by decide))];decide
 opn:=iG
 node:=fun a l r h1 h2 h3 h4=>⟨fun _=>⟨h1,h2,h3,h4⟩,fun e=>absurd (show (1:Int)=2 from e) (by decide),fun e=>absurd (show (1:Int)=3 from e) (by decide),fun e=>absurd rfl e⟩
 make:=fun N u t v x y l r hc hl hr h1 h2=>by
  obtain⟨hb,el,er⟩:=VJ 1 l r N hl hr;exact⟨orT x y,cJ.or _ _ _ _ _ _ _ _ (Nat.le_refl _) hc hb (by rw[el];exact h1) (by rw[er];exact h2)⟩
 wt:=fun u t v x y N a b p q h1 h2 h3=>zFC h1 h2 h3
 neut:=⟨by decide,by decide,by decide⟩
 kind:=.inl rfl
 exits:=fun c h h2=>⟨fun _=>h2 (by decide),fun _=>h⟩ }
theorem KS{ts:zJ}{len n j i:Nat}{op d:Int}{q0:GS}{tok:Bs}{kind:Int}{item:GS->Int × GS}(J:ky tok kind j)
 (hitem:∀(q:GS) (i:Nat),q.s=(i,false)->i<=ts.length->ts.length+1-i<=n->dF q.nd->Uf ts len j i op d q (item q)) (k:Nat) :
 ∀(left:Int) (q:GS) (i':Nat) (u:zJ) (x:Bs × Int),q.s=(i',false)->i<i'->i'<=ts.length->ts.length+1-i'<=n->ts.length+1-i'<=k->FA ts len i bE op=FA ts len i' qB op->(∃M,q.nd=q0.nd++M)->dF q.nd ->
  (1<=j->cA ts i'≠yL)->Gr (j+1) u x q.nd left->ts.drop i=u++ts.drop i'->Wt q0 d q u->Uf ts len (j+1) i op d q0 (mV (pp ts len) item tok kind k left q):=by
 induction k with
 | zero=>intro left q i' u x _ _ h1 _ h2;omega
 | succ k ih =>
   intro left q i' u x hq zFY hle hn hk hf hM hg hx1 hr hd hwt;rw[mV,hq];rcases cU (len:=len) hle J.kw with ⟨hc,hi,e⟩|⟨hc,e⟩
   ·rw[e]
    simp only;have hf2:FA ts len i bE op=FA ts len (i'+1) bE op:=hf.trans (uT hi hc (J.next op) (by decide) (J.opn op));have hI:=hitem (q.to (i'+1,false)) (i'+1) rfl hi (by omega) hg;generalize item (q.to (i'+1,false))=r at hI ⊢;rcases hI with ⟨h1,h2⟩|⟨h1,h2,h3,h4,⟨M,h5⟩,h6,h7,h8,v,y,h9,h10,h11⟩
    ·obtain⟨a,⟨⟨s1,s2⟩,nd,te,de⟩⟩:=r
     simp only at h1;subst h1;refine .inl ⟨?_,?_⟩
     ·rw[mU _ _ _ _ _ _ _ rfl];rfl
     ·rw[mU _ _ _ _ _ _ _ rfl,hf2];exact h2
    ·obtain⟨M0,hM⟩:=hM
     obtain⟨a,⟨⟨s1,s2⟩,nd,te,de⟩⟩:=r;simp only[GS.to]at h1 h2 h3 h4 h5 h6 h7 h8 h9 h10;subst h1;have bl:=(hr.ext M).bound;rw[<-h5]at bl;have br:=h9.bound
     have rl:Gr (j+1) u x (nd++[⟨kind,left,a,[],[],[],0⟩]) left:=by
      have:=hr.ext (M++[⟨kind,left,a,[],[],[],0⟩]);rw[<-List.append_assoc,<-h5]at this;exact this
     obtain⟨z,hz⟩:=J.make nd u (TT ts i') v x y left a hc bl.2 br.2 rl (h9.ext _);refine ih _ _ s1 (u++TT ts i'::v) z rfl (by omega) h3 (by omega) (by omega) (hf2.trans h4) ⟨M0++M++[⟨kind,left,a,[],[],[],0⟩],?_⟩ ?_ h7 hz ?_ ?_
     ·show nd++[_]=_
      rw[h5,hM];simp
     ·exact dF.add h6 (J.node _ _ _ bl.1 bl.2 br.1 br.2)
     ·rw[hd,zO ts i' hi,h10];simp
     ·obtain⟨y1,L1,w1,w2,w3,w4,w5,w6⟩:=hwt
      obtain⟨y2,L2,v1,v2,v3,v4,v5,v6⟩:=h11;have hcls:zX (TT ts i').2=tok:=hc;refine⟨pK y1 y2,L1++L2,J.wt _ _ _ _ _ _ _ _ _ _ hc rl (h9.ext _) w1 v1,?_,?_,?_,w5.join v5 (by rw[hcls];exact J.neut.1) (by rw[hcls];exact J.neut.2),?_⟩
      ·simp only[pK];split <;> omega
      ·simp only[GS.to]at v3
       show te=q0.tests+(y1.1+y2.1);omega
      ·simp only[GS.to]at v4
       show q0.dep<=de/\d+(pK y1 y2).2<=de/\(de=q0.dep\/de=d+(pK y1 y2).2);simp only[pK];split <;> omega
      ·simp only[GS.to]at v6
       show jV (nd++[_])=_;have e9:jV [⟨kind,left,a,[],[],[],0⟩]=[]:=by rcases J.kind with rfl|rfl <;> rfl
       rw[iI,e9,List.append_nil,v6,w6,List.append_assoc]
   ·rw[e]
    simp only;obtain⟨e1,e2⟩:=J.exits (cA ts i') hc hx1;exact .inr ⟨rfl,zFY,hle,hf,hM,hg,e1,e2,u,x,hr,hd,hwt⟩
theorem Q1{ts:zJ}{len n:Nat}{op d:Int}{fact:GS->Int->Int × GS}
 (hitem:∀(q:GS) (i:Nat),q.s=(i,false)->i<=ts.length->ts.length+1-i<=n->dF q.nd->Uf ts len 0 i op d q (fact q d))
 (q:GS) (i:Nat) (hq:q.s=(i,false)) (hi:i<=ts.length) (hn:ts.length+1-i<=n) (hg:dF q.nd):Uf ts len 1 i op d q (mI (pp ts len) fact q d):=by
 unfold mI;have hI:=hitem q i hq hi hn hg;generalize fact q d=r at hI ⊢;obtain⟨a,⟨⟨s1,s2⟩,nd,te,de⟩⟩:=r;rcases hI with ⟨h1,h2⟩|⟨h1,h2,h3,h4,h5,h6,h7,h8,v,y,h9,h10,h11⟩
 ·simp only at h1
  subst h1;refine .inl ⟨?_,?_⟩
  ·rw[mU _ _ _ _ _ _ _ rfl]
  ·rw[mU _ _ _ _ _ _ _ rfl];exact h2
 ·simp only at h1 h2 h3 h4 h5 h6 h7 h8 h9 h10
  subst h1;exact KS Fy hitem (pp ts len).length a ⟨(s1,false),nd,te,de⟩ s1 v y rfl h2 h3 (by omega) (by rw[iB];omega) h4 h5 h6 (fun h=>absurd h (by decide)) (h9.le (by decide)) h10 h11
theorem Dd{ts:zJ}{len n:Nat}{op d:Int}{fact:GS->Int->Int × GS}
 (hitem:∀(q:GS) (i:Nat),q.s=(i,false)->i<=ts.length->ts.length+1-i<=n->dF q.nd->Uf ts len 0 i op d q (fact q d))
 (q:GS) (i:Nat) (hq:q.s=(i,false)) (hi:i<=ts.length) (hn:ts.length+1-i<=n) (hg:dF q.nd):Uf ts len 2 i op d q (eG (pp ts len) fact q d):=by
 unfold eG;have hI:=Q1 hitem q i hq hi hn hg;generalize mI (pp ts len) fact q d=r at hI ⊢;obtain⟨a,⟨⟨s1,s2⟩,nd,te,de⟩⟩:=r;rcases hI with ⟨h1,h2⟩|⟨h1,h2,h3,h4,h5,h6,h7,h8,v,y,h9,h10,h11⟩
 ·simp only at h1
  subst h1;refine .inl ⟨?_,?_⟩
  ·rw[mU _ _ _ _ _ _ _ rfl]
  ·rw[mU _ _ _ _ _ _ _ rfl];exact h2
 ·simp only at h1 h2 h3 h4 h5 h6 h7 h8 h9 h10
  subst h1;exact KS vx (fun q i=>Q1 hitem q i) (pp ts len).length a ⟨(s1,false),nd,te,de⟩ s1 v y rfl h2 h3 (by omega) (by rw[iB];omega) h4 h5 h6 (fun _=>h7 (by decide)) (h9.le (by decide)) h10 h11
theorem uv{ts:zJ}{len:Nat}(zGM:fO ts)(n:Nat):∀(op d:Int),0<=op->∀(q:GS) (i:Nat),q.s=(i,false)->i<=ts.length->ts.length+1-i<=n->dF q.nd->Uf ts len 0 i op d q (xK (pp ts len) n q d):=by
 induction n with
 | zero=>intro op d _ q i _ h1 h2;omega
 | succ n ih =>
   intro op d zGR q i hq hi hn hg;rw[xK,hq];rcases cU (len:=len) hi (t:=xG) (by decide) with ⟨hc,zFY,e⟩|⟨hc,e⟩
   ·rw[e]
    simp only;have hf:FA ts len i bE op=FA ts len (i+1) bE op:=uT zFY hc rfl (by decide) (wO op);have hI:=ih op (d+1) zGR (q.to (i+1,false)) (i+1) rfl zFY (by omega) hg;generalize xK (pp ts len) n (q.to (i+1,false)) (d+1)=r at hI ⊢;rcases hI with ⟨h1,h2⟩|⟨h1,h2,h3,h4,⟨M,h5⟩,h6,h7,h8,v,y,h9,h10,h11⟩
    ·exact .inl ⟨h1,by rw[hf];exact h2⟩
    ·obtain⟨a,⟨⟨s1,s2⟩,nd,te,de⟩⟩:=r
     simp only[GS.to]at h1 h2 h3 h4 h5 h6 h7 h8 h9 h10;subst h1;have br:=h9.bound;have en:qX (nd++[⟨3,a,0,[],[],[],0⟩]) (nd.length:Int).toNat=⟨3,a,0,[],[],[],0⟩:=by rw[Int.toNat_natCast];exact wV _ _
     have el:lf (nd++[⟨3,a,0,[],[],[],0⟩]) nd.length=a:=by unfold lf;rw[en]
     have hgr:Gr 0 (TT ts i::v) (J8 y) (nd++[⟨3,a,0,[],[],[],0⟩]) (nd.length:Int):=by
      refine cJ.neg _ _ _ _ _ _ hc ⟨by omega,by simp only[List.length_append,List.length_singleton];omega,by rw[en],by rw[el];exact br.2⟩ ?_;rw[el];exact h9.ext _
     have hcls:zX (TT ts i).2=xG:=hc;refine .inr ⟨rfl,(by show i<s1;omega),h3,hf.trans h4,⟨M++[⟨3,a,0,[],[],[],0⟩],?_⟩,?_,fun h=>absurd h (by decide),fun h=>absurd h (by decide),TT ts i::v,J8 y,hgr,?_,?_⟩
     ·show nd++[_]=_
      rw[h5];simp
     ·exact dF.add h6 ⟨fun e=>absurd (show (3:Int)=1 from e) (by decide),fun e=>absurd (show (3:Int)=2 from e) (by decide),fun _=>br,fun _ _ e=>absurd rfl e⟩
     ·show ts.drop i=(TT ts i::v)++ts.drop s1
      rw[zO ts i zFY,h10];rfl
     ·obtain⟨y2,L2,v1,v2,v3,v4,v5,v6⟩:=h11
      simp only[GS.to]at v3 v4 v6;refine⟨(y2.1,y2.2+1),L2,zD5 hc hgr v1,by simp only;omega,v3,?_,v5.ahead (by rw[hcls];decide) (by rw[hcls];exact⟨by decide,by decide⟩),?_⟩
      ·show q.dep<=de/\d+(y2.2+1)<=de/\(de=q.dep\/de=d+(y2.2+1))
       omega
      ·show jV (nd++[_])=_
       rw[iI,v6,show jV [⟨3,a,0,[],[],[],0⟩]=[] from rfl,List.append_nil]
   rw[e];simp only;rcases cU (len:=len) hi (t:=yW) (by decide) with ⟨hc2,zFY,e2⟩|⟨hc2,e2⟩
   ·rw[e2]
    simp only;have hf:FA ts len i bE op=FA ts len (i+1) bE (op+1):=uT zFY hc2 rfl (by decide) (wN op);have hI:=Dd (fun q i=>ih (op+1) (d+1) (by omega) q i) (q.to (i+1,false)) (i+1) rfl zFY (by omega) hg;generalize eG (pp ts len) (xK (pp ts len) n) (q.to (i+1,false)) (d+1)=r at hI ⊢;rcases hI with ⟨h1,h2⟩|⟨h1,h2,h3,h4,⟨M,h5⟩,h6,h7,h8,v,y,h9,h10,h11⟩
    ·obtain⟨a,⟨⟨s1,s2⟩,nd,te,de⟩⟩:=r
     simp only at h1;subst h1;exact .inl ⟨rfl,by rw[hf];exact h2⟩
    ·obtain⟨a,⟨⟨s1,s2⟩,nd,te,de⟩⟩:=r
     simp only[GS.to]at h1 h2 h3 h4 h5 h6 h7 h8 h9 h10;subst h1;simp only[GS.to];rcases gY (len:=len) h3 (t:=vD) (by decide) with ⟨hc3,hlt3,e3⟩|⟨hc3,e3⟩
     ·rw[e3]
      have hnx:zT qB vD (op+1)=qB:=by
       rw[aQ,if_neg (by rintro(⟨_,h⟩|⟨h,_⟩);omega;exact absurd h (by decide))];decide
      have hf3:=uT (len:=len) hlt3 hc3 hnx (by decide) (show opn vD (op+1)=op by rw[wM];omega);refine .inr ⟨rfl,(by show i<s1+1;omega),hlt3,hf.trans (h4.trans hf3),⟨M,h5⟩,h6,fun h=>absurd h (by decide),fun h=>absurd h (by decide),TT ts i::(v++[TT ts s1]),y,cJ.br _ _ _ _ _ _ _ hc2 hc3 h9,?_,?_⟩
      ·show ts.drop i=(TT ts i::(v++[TT ts s1]))++ts.drop (s1+1)
       rw[zO ts i zFY,h10,zO ts s1 hlt3];simp
      ·obtain⟨y2,L2,v1,v2,v3,v4,v5,v6⟩:=h11
       simp only[GS.to]at v3 v4 v6;have ho:zX (TT ts i).2=yW:=hc2;have hs:zX (TT ts s1).2=vD:=hc3;refine⟨(y2.1,y2.2+1),L2,zFD hc2 hc3 h9 v1,by simp only;omega,v3,?_,(v5.behind (by rw[hs];decide) (by rw[hs];exact⟨by decide,by decide⟩)).ahead (by rw[ho];decide) (by rw[ho];exact⟨by decide,by decide⟩),v6⟩;show q.dep<=de/\d+(y2.2+1)<=de/\(de=q.dep\/de=d+(y2.2+1));omega
     ·rw[e3]
      refine .inl ⟨rfl,?_⟩;rw[hf,h4];exact nL h3 (ZD (h8 (by decide)) (h7 (by decide)) (fun e=>absurd e hc3) (fun _=>by omega)) (.inr (by decide))
   ·rw[e2]
    simp only;have hT:=GT (len:=len) zGM hi op hc hc2;generalize vF (pp ts len) (i,false)=r at hT ⊢;obtain⟨z,⟨s1,s2⟩⟩:=r;rcases hT with ⟨h1,h2⟩|⟨h1,h2,h3,h4,u,h5,h6,⟨h7,h8,h9,hTT⟩,h11⟩
    ·simp only at h1;subst h1
     exact .inl ⟨rfl,h2⟩
    ·simp only at h1 h2 h3 h4 h5 h7 h8 h9;subst h1
     have en:qX (q.nd++[z]) (q.nd.length:Int).toNat=z:=by rw[Int.toNat_natCast];exact wV _ _
     refine .inr ⟨rfl,h2,h3,h4,⟨[z],rfl⟩,?_,fun h=>absurd h (by decide),fun h=>absurd h (by decide),u,(dA u,0),?_,h5,?_⟩
     ·have hz:UZ z q.nd.length:=⟨fun (e:z.kind=1)=>by omega,fun (e:z.kind=2)=>by omega,fun (e:z.kind=3)=>by omega,fun _ _ _=>⟨h7,h8⟩⟩
      exact dF.add hg hz
     ·show Gr 0 u (dA u,0) (q.nd++[z]) (q.nd.length:Int)
      refine cJ.test _ _ _ _ h6 ⟨by omega,by simp only[List.length_append,List.length_singleton];omega,?_⟩;rw[en];exact⟨h7.1,h9,hTT⟩
     ·refine⟨(1,0),KI z,jh h6,by simp,rfl,?_,h11,?_⟩
      ·show q.dep<=(if q.dep<d then d else q.dep)/\d+0<=(if q.dep<d then d else q.dep)/\((if q.dep<d then d else q.dep)=q.dep\/(if q.dep<d then d else q.dep)=d+0)
       split <;> omega
      ·show jV (q.nd++[z])=_
       rw[iI];simp[jV]
theorem FD{ts:zJ}{len i:Nat}(zGM:fO ts)(hi:i<=ts.length):Uf ts len 2 i 0 0 ⟨(i,false),[],0,0⟩ (vV (pp ts len) (i,false)):=by
 unfold vV Zz;exact Dd (fun q i=>uv zGM (pp ts len).length 0 0 (by decide) q i) ⟨(i,false),[],0,0⟩ i rfl hi (by rw[iB];omega) aU
end Go.Proofs.YtnbpdffdnphbeaaGreatDoor
