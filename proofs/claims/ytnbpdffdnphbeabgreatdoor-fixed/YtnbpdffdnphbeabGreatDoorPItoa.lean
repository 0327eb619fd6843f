import Derived.Test.YtnbpdffdnphbeabGreatDoorFLines
namespace Go.Proofs.YtnbpdffdnphbeabGreatDoor
variable{n:Int}{i:Nat}{M:zT}(u:Nat)
theorem Gb{d:Nat}(h:d<10):so (UInt8.ofNat (48+d))=2:=(show ∀d:Nat,d<10->so (UInt8.ofNat (48+d))=2 by decide) d h
theorem U0{d:Nat}(h:d<10):((UInt8.ofNat (48+d)).toNat:Int)=48+d:=(show ∀d:Nat,d<10->((UInt8.ofNat (48+d)).toNat:Int)=48+d by decide) d h
theorem ZQ{u:Nat}(h:¬u<10):Lib.decDigits u=Lib.decDigits (u/10)++[UInt8.ofNat (48+u%10)]:=by
 rw[Lib.decDigits,dif_neg h]
theorem zC3:∀c∈Lib.decDigits u,so c=2:=by
 induction u using Nat.strongRecOn with
 | _ u ih =>
   by_cases h:u<10
   ·rw[Lib.decDigits_one h]
    intro c hc;rw[po.1 hc];exact Gb h
   ·rw[ZQ h]
    intro c hc;rcases pt.1 hc with h1|h1
    ·exact ih (u/10) (by omega) c h1
    ·rw[po.1 h1];exact Gb (by omega)
theorem Gf:Lib.decDigits u≠[]:=fun e=>by
 have h1:=Lib.decDigits_length u;have h2:=Lib.nDigits_pos u;rw[e]at h1;simp at h1;omega
theorem CH(s:Bs)(c:UInt8):∀a:Int,jT a (s++[c])=jT a s*10+((c.toNat:Int)-48):=by
 induction s with
 | nil=>intro a;simp[jT];omega
 | cons x r ih=>intro a;simp only[l9,jT];rw[ih]
theorem Ge:jT 0 (Lib.decDigits u)=u:=by
 induction u using Nat.strongRecOn with
 | _ u ih =>
   by_cases h:u<10
   ·rw[Lib.decDigits_one h]
    simp only[jT];rw[U0 h];omega
   ·rw[ZQ h,CH,ih (u/10) (by omega),U0 (by omega)]
    omega
theorem ql{u:Nat}(h:u<=9999):(Lib.decDigits u).length<=4:=by
 rw[Lib.decDigits_length];by_cases h1:u<10
 ·rw[Lib.nDigits_small h1];decide
 ·rw[Lib.nDigits_big h1]
  by_cases h2:u/10<10
  ·rw[Lib.nDigits_small h2];decide
  ·rw[Lib.nDigits_big h2]
   by_cases h3:u/10/10<10
   ·rw[Lib.nDigits_small h3];decide
   ·rw[Lib.nDigits_big h3,Lib.nDigits_small (by omega)];decide
theorem KL(h:0<=n):Lib.itoa n=Lib.decDigits n.toNat:=by unfold Lib.itoa;rw[t7 (by omega)]
theorem fV(h0:0<=n)(h1:n<=9999):Lib.itoa n≠[]/\(∀c∈Lib.itoa n,so c=2)/\(Lib.itoa n).length<=4/\jT 0 (Lib.itoa n)=n:=by
 rw[KL h0];exact⟨Gf _,zC3 _,ql (by omega),by rw[Ge];omega⟩
theorem Gg:0<u->(Lib.decDigits u).getD 0 0≠48:=by
 induction u using Nat.strongRecOn with
 | _ u ih =>
   intro h0;by_cases h:u<10
   ·rw[Lib.decDigits_one h]
    exact(show ∀u:Nat,u<10->0<u->([UInt8.ofNat (48+u)]:Bs).getD 0 0≠48 by decide) u h h0
   ·rw[ZQ h]
    have h1:=ih (u/10) (by omega) (by omega);have h2:=Gf (u/10)
    cases hd:Lib.decDigits (u/10) with
    | nil=>exact absurd hd h2
    | cons a r=>rw[hd]at h1;exact h1
theorem dL(h0:0<=n)(h1:n<=9999):yC (Lib.itoa n)=3/\qM (Lib.itoa n)=n:=by
 obtain⟨a1,a2,a3,a4⟩:=fV h0 h1;have hh:so ((Lib.itoa n).getD 0 0)=2:=a2 _ (tR 0 (List.length_pos_iff.2 a1))
 have hz:¬(4<(Lib.itoa n).length\/1<(Lib.itoa n).length/\(Lib.itoa n).getD 0 0=48):=fun q=>by
  rcases q with q|⟨q1,q2⟩
  ·omega
  ·rw[KL h0]at q1 q2
   by_cases hp:0<n.toNat
   ·exact Gg _ hp q2
   ·rw[show n.toNat=0 by omega,Lib.decDigits_one (by decide)]at q1
    simp at q1
 have hk:yC (Lib.itoa n)=3:=by unfold yC;rw[t7 (by rw[hh];decide),tg hh,t7 hz]
 exact⟨hk,by unfold qM;rw[tg hk];exact a4⟩
def zBW:List Bs:=[[110,111,116],[40],[41],rW,nY,[111,114],[97,110,100],[45],[43],[42],[114,117,108,101],[58],[61],[119,104,101,110],[59],[110,117,109],[46,46],[102,108,97,103],[111,118,101,114]]
def zBX:List Bs:=[[110,111,116],[40],[41],rW,nY,[111,114],[97,110,100],[45],[43],[42],[114,117,108,101],[58],[61],[119,104,101,110],[110,117,109],[46,46],[102,108,97,103],[111,118,101,114]]
structure sM(P:Bs->Prop):Prop where
 fix:∀x∈zBX,P x
 nam:∀f i,f=110\/f=102\/f=99\/f=114->i<8->P (xG f i)
 num:∀n:Int,0<=n->n<=9999->P (Lib.itoa n)
 mark:∀k,k<6->P (nC k)
structure UB(P:Bs->Prop):Prop where
 fix:∀x∈zBW,P x
 nam:∀f i,f=110\/f=102\/f=99\/f=114->i<8->P (xG f i)
 num:∀n:Int,0<=n->n<=9999->P (Lib.itoa n)
 mark:∀k,k<6->P (nC k)
theorem UB.q{P:Bs->Prop}(h:UB P):sM P:=⟨fun x hx=>h.fix x ((show ∀x∈zBX,x∈zBW by decide) x hx),h.nam,h.num,h.mark⟩
def cY(P:Bs->Prop)(l:List Bs):Prop:=∀x∈l,P x
variable {P:Bs->Prop}
theorem cY.app{a b:List Bs}(ha:cY P a)(hb:cY P b):cY P (a++b):=fun x hx=>by
 rcases pt.1 hx with h|h
 ·exact ha x h
 ·exact hb x h
theorem vK:cY P []:=fun x hx=>by cases hx
theorem yL{a:Bs}{l:List Bs}(ha:P a)(hl:cY P l):cY P (a::l):=fun x hx=>by
 rcases l3.1 hx with rfl|h
 ·exact ha
 ·exact hl x h
theorem lE{p:Prop}[Decidable p]{a b:List Bs}(ha:p->cY P a)(hb:¬p->cY P b):cY P (if p then a else b):=by split <;> rename_i h;exact ha h;exact hb h
theorem J3{f:Nat->List Bs}{n:Nat}(h:∀i,i<n->cY P (f i)):cY P ((List.range n).flatMap f):=fun x hx=>by
 obtain⟨i,hi,hx'⟩:=bq.1 hx;exact h i (ph.1 hi) x hx'
theorem sM.inp(h:sM P)(hi:i<5):P (yG i):=by
 unfold yG;split
 ·exact h.nam _ _ (.inl rfl) (by omega)
 ·exact h.nam _ _ (.inr (.inl rfl)) (by omega)
theorem sM.one(h:sM P){x:Bs}(hx:x∈zBX){p:Prop}[Decidable p]:cY P (if p then [x] else []):=lE (fun _=>yL (h.fix x hx) vK) (fun _=>vK)
theorem Gi(hP:sM P){low:List Nat}(hl4:∀d∈low,d<4){t:zX}(h:xY low t):cY P (uD t):=by
 unfold uD;rcases h with h|⟨h,x1,x2⟩|⟨h,d,hd,hx⟩|⟨h,⟨x1,x2⟩,⟨y1,y2⟩,⟨m1,m2⟩,n1,n2⟩
 ·rw[tg h];exact yL (hP.fix _ (by decide)) vK
 ·rw[t7 (by omega),tg h];exact yL (hP.inp (by omega)) vK
 ·rw[t7 (by omega),t7 (by omega),tg h]
  have:=hl4 d hd;exact yL (hP.fix _ (by decide)) (yL (hP.nam _ _ (.inr (.inr (.inl rfl))) (by omega)) vK)
 ·rw[t7 (by omega),t7 (by omega),t7 (by omega)]
  exact lE (fun _=>yL (hP.inp (by omega)) (yL (hP.mark _ (by omega)) (yL (hP.num _ n1 n2) vK))) (fun _=>yL (hP.inp (by omega)) (yL (hP.mark _ (by omega)) (yL (hP.inp (by omega)) vK)))
theorem ya(hP:sM P){low:List Nat}(hl4:∀d∈low,d<4){t:zX}(h:xY low t)(lo:Bool):cY P (yZ t lo):=by
 unfold yZ;exact(((hP.one (by decide)).app (hP.one (by decide))).app (Gi hP hl4 h)).app (hP.one (by decide))
theorem um(hP:sM P){low:List Nat}(hl4:∀d∈low,d<4){ts:List zX}(h:jS low ts)(wh lo:Bool):cY P (bD wh ts lo):=by
 unfold bD kI;refine(((hP.one (by decide)).app (hP.one (by decide))).app (J3 fun i hi=>?_)).app (hP.one (by decide));refine cY.app ?_ (ya hP hl4 (h.2.2 _ (tR lI hi)) lo);unfold qS;exact lE (fun _=>vK) (fun _=>lE (fun _=>yL (hP.fix _ (by decide)) vK) (fun _=>yL (hP.fix _ (by decide)) vK))
theorem yk(hP:sM P){low:List Nat}(hl4:∀d∈low,d<4){ps:List yR}(h:jD low ps):cY P (bL ps):=by
 unfold bL tK;refine J3 fun i hi=>?_;have hp:=h.2.2 _ (tR dQ hi);generalize ps.getD i dQ=p at *;unfold mB cI uI tD uU;refine(((lE (fun _=>vK) (fun _=>lE (fun _=>yL (hP.fix _ (by decide)) vK) (fun _=>yL (hP.fix _ (by decide)) vK))).app (lE (fun hc=>yL ?_ vK) (fun _=>vK))).app (hP.one (by decide))).app (lE (fun hn=>yL ?_ vK) (fun _=>lE (fun hh=>yL ?_ vK) (fun _=>vK)))
 ·rcases hp with ⟨-,h1,-,-⟩|⟨h0,h1,-⟩|⟨-,h1,-⟩|⟨h1,-,-⟩
  ·exact hP.num _ h1.1 h1.2
  ·rcases hc with hc|hc
   ·exact absurd (hc.symm.trans h0) (by simp)
   ·omega
  ·exact hP.num _ h1.1 (by omega)
  ·exact hP.num _ h1.1 (by omega)
 ·rcases hp with ⟨-,-,h1,-⟩|⟨-,h1,-⟩|⟨-,-,h1,-⟩|⟨-,h1,-⟩
  ·omega
  ·exact hP.inp (by omega)
  ·exact hP.inp (by omega)
  ·omega
 ·rcases hp with ⟨-,-,-,h1⟩|⟨-,-,h1⟩|⟨-,-,-,h1⟩|⟨-,-,d,hd,h1⟩
  ·omega
  ·omega
  ·omega
  ·have:=hl4 d hd
   exact hP.nam _ _ (.inr (.inr (.inl rfl))) (by omega)
theorem B0(hP:UB P)(h:yF M)(lo:Bool):∀l∈vI M lo,cY P l:=fun l hl=>by
 have h8:=h.few;unfold vI at hl;rcases pt.1 hl with hl|hl
 ·rcases pt.1 hl with hl|hl
  ·obtain⟨i,hi,rfl⟩:=p7.1 hl
   have hi5:=ph.1 hi;unfold dO;split
   ·rename_i h3
    have:=h.nums i h3;exact yL (hP.fix _ (by decide)) (yL (hP.q.inp hi5) (yL (hP.num _ (by omega) (by omega)) (yL (hP.fix _ (by decide)) (yL (hP.num _ (by omega) (by omega)) (yL (hP.fix _ (by decide)) vK)))))
   ·exact yL (hP.fix _ (by decide)) (yL (hP.q.inp hi5) (yL (hP.fix _ (by decide)) vK))
  ·obtain⟨i,hi,rfl⟩:=p7.1 hl
   have hr:=h.rules _ (tR oY (ph.1 hi));have hi8:=ph.1 hi;generalize M.rules.getD i oY=r at *;have hh:=hr.head;have hl4:∀d∈yW M.heads r.head,d<4:=fun d hd=>by have:=rQ hd;omega
   have q1:cY P [[114,117,108,101],xG 114 i,[58],xG 99 r.head,[61]]:=yL (hP.fix _ (by decide)) (yL (hP.nam _ _ (.inr (.inr (.inr rfl))) (by omega)) (yL (hP.fix _ (by decide)) (yL (hP.nam _ _ (.inr (.inr (.inl rfl))) (by omega)) (yL (hP.fix _ (by decide)) vK))));unfold bM;exact(((q1.app (yk hP.q hl4 hr.parts)).app (yL (hP.fix _ (by decide)) vK)).app (um hP.q hl4 hr.tests _ _)).app (yL (hP.fix _ (by decide)) vK)
 ·obtain⟨i,hi,hl⟩:=bq.1 hl
  have hi8:=ph.1 hi;unfold jM at hl;obtain⟨j,hj,hl⟩:=bq.1 hl;have hj8:=ph.1 hj;split at hl
  ·rw[po.1 hl]
   exact yL (hP.fix _ (by decide)) (yL (hP.nam _ _ (.inr (.inr (.inr rfl))) (by omega)) (yL (hP.nam _ _ (.inr (.inr (.inr rfl))) (by omega)) (yL (hP.fix _ (by decide)) vK)))
  ·cases hl
theorem zBV{f:UInt8}(hf:f=110\/f=102\/f=99\/f=114)(hi:i<8):∀x∈xG f i,so x=1:=by
 have h:i=0\/i=1\/i=2\/i=3\/i=4\/i=5\/i=6\/i=7:=by omega
 rcases hf with rfl|rfl|rfl|rfl <;> rcases h with rfl|rfl|rfl|rfl|rfl|rfl|rfl|rfl <;> decide
theorem zg:UB Wd:=by
 have run:∀x:Bs,x≠[]->(∀c∈x,so c=1)->Wd x:=fun x h1 h2=>sS 1 (.inl rfl) h1 h2;have m1:∀m:UInt8,so m=0->jN qU [m,32]=false->jN qU [m,59]=false->jN qU [m,10]=false->Wd [m]:=fun m a b c d=>Xe a b c d;refine⟨fun x hx=>?_,fun f i hf hi=>run _ (by unfold xG;simp) (zBV hf hi),fun n h0 h1=>sS 2 (.inr rfl) (fV h0 h1).1 (fV h0 h1).2.1,fun k hk=>?_⟩
 ·simp only[zBW,l3,cx,or_false]at hx
  rcases hx with rfl|rfl|rfl|rfl|rfl|rfl|rfl|rfl|rfl|rfl|rfl|rfl|rfl|rfl|rfl|rfl|rfl|rfl|rfl
  all_goals first
   | exact run _ (by decide) (by decide)
   | exact m1 _ (by decide) (by decide) (by decide) (by decide)
   | exact Qe (by decide) (by decide)
 ·have h:k=0\/k=1\/k=2\/k=3\/k=4\/k=5:=by omega
  rcases h with rfl|rfl|rfl|rfl|rfl|rfl
  all_goals first
   | exact m1 _ (by decide) (by decide) (by decide) (by decide)
   | exact Qe (by decide) (by decide)
theorem DX(h:yF M)(lo:Bool):∀l∈vI M lo,∀x∈l,Wd x:=B0 zg h lo
theorem yd(h:yF M)(lo:Bool):tw (sR (vI M lo))=(vI M lo).flatten:=CI _ (DX h lo)
theorem Bd{r a b:Bs}(hr:yC r=2)(ha:yC a=3)(hb:yC b=3):UC ⟨1,r,qM a,qM b,[],[],[],0,0,0,[]⟩ [[110,117,109],r,a,[46,46],b,lW]:=by
 refine⟨fun w r h=>by cases h;decide,by simp,fun P x h _=>?_⟩;obtain⟨h0,h1,h2,h3,h4,h5,_⟩:=h;unfold vN;simp only[mO h0 (by decide)];unfold lQ;simp only[pM h1 hr,fP h2 ha,bX h3 (by decide),fP h4 hb,show ([59]:Bs)=lW from rfl,bX h5 (by decide)];rfl
theorem Ke{r:Bs}(hr:yC r=2):UC ⟨2,r,0,0,[],[],[],0,0,0,[]⟩ [[102,108,97,103],r,lW]:=by
 refine⟨fun w r h=>by cases h;decide,by simp,fun P x h _=>?_⟩;obtain⟨h0,h1,h2,_⟩:=h;unfold vN;simp only[qF h0 [110,117,109] (fun _=>by decide),mO h0 (by decide)];unfold pK;simp only[pM h1 hr,show ([59]:Bs)=lW from rfl,bX h2 (by decide)];rfl
def vU(p:yR):List Bs:=uI p++tD p++uU p
def fH(p:yR):List Bs:=if p.minus=true then [[45]] else [[43]]
def tC(l:List yR):List Bs:=l.flatMap fun q=>fH q++vU q
def mS(m:Bool)(p:yR):yT:=if p.times=true then ⟨m,true,p.n,if 0<=p.num then yG p.num.toNat else xG 99 p.head.toNat⟩ else if 0<=p.num then ⟨m,false,0,yG p.num.toNat⟩ else if 0<=p.head then ⟨m,false,0,xG 99 p.head.toNat⟩ else ⟨m,false,p.n,[]⟩
theorem tN{f:UInt8}(hf:f=110\/f=102\/f=99\/f=114)(hi:i<8):yC (xG f i)=2:=by
 have h:i=0\/i=1\/i=2\/i=3\/i=4\/i=5\/i=6\/i=7:=by omega
 rcases hf with rfl|rfl|rfl|rfl <;> rcases h with rfl|rfl|rfl|rfl|rfl|rfl|rfl|rfl <;> decide
theorem pT(hi:i<5):yC (yG i)=2:=by
 unfold yG;split
 ·exact tN (.inl rfl) (by omega)
 ·exact tN (.inr (.inl rfl)) (by omega)
theorem aR{low:List Nat}(hl4:∀d∈low,d<4){p:yR}(h:qZ low p){P:List PT}{a:Nat}{v:Bs}(m:Bool)(hv:yC v=4->v≠[42])(hA:sP P a (vU p++[v])):uL P m (a,false)=(mS m p,(a+(vU p).length,false)):=by
 obtain⟨mi,ti,n,nu,hd⟩:=p;rcases h with ⟨h0,h1,h2,h3⟩|⟨h0,h1,h2⟩|⟨h0,h1,h2,h3⟩|⟨h1,h2,d,hd4,h3⟩
 ·simp only at h0 h1 h2 h3
  subst h0 h2 h3;have e:vU ⟨mi,false,n,-1,-1⟩=[Lib.itoa n]:=by simp[vU,uI,tD,uU]
  rw[e]at hA ⊢;obtain⟨k1,k2⟩:=dL h1.1 h1.2;rw[Dw m hA.1 k1 hA.2.1 hv,k2];rfl
 ·simp only at h0 h1 h2
  subst h0 h2;have e:vU ⟨mi,false,n,nu,-1⟩=[yG nu.toNat]:=by simp[vU,uI,tD,uU,h1.1]
  rw[e]at hA ⊢;rw[Y4 m hA.1 (pT (by omega))];simp[mS,h1.1]
 ·simp only at h0 h1 h2 h3
  subst h0 h3;have e:vU ⟨mi,true,n,nu,-1⟩=[Lib.itoa n,[42],yG nu.toNat]:=by simp[vU,uI,tD,uU,h2.1]
  rw[e]at hA ⊢;obtain⟨k1,k2⟩:=dL h1.1 (by omega);rw[Y3 m hA.1 k1 hA.2.1 hA.2.2.1 (pT (by omega)),k2];simp[mS,h2.1]
 ·simp only at h1 h2 h3
  subst h2 h3;have hd4':=hl4 d hd4;cases ti
  ·have e:vU ⟨mi,false,n,-1,d⟩=[xG 99 d]:=by simp[vU,uI,tD,uU]
   rw[e]at hA ⊢;rw[Y4 m hA.1 (tN (.inr (.inr (.inl rfl))) (by omega))];simp[mS]
  ·have e:vU ⟨mi,true,n,-1,d⟩=[Lib.itoa n,[42],xG 99 d]:=by simp[vU,uI,tD,uU]
   rw[e]at hA ⊢;obtain⟨k1,k2⟩:=dL h1.1 (by omega);rw[Y3 m hA.1 k1 hA.2.1 hA.2.2.1 (tN (.inr (.inr (.inl rfl))) (by omega)),k2];simp[mS]
theorem UQ{low:List Nat}(hl4:∀d∈low,d<4){P:List PT}:∀(l:List yR) (p:yR) (n a:Nat) (m:Bool) (acc:List yT),(∀q∈p::l,qZ low q)->sP P a (vU p++tC l++[uP])->l.length<n->mD P n m (a,false) acc=(acc++mS m p::l.map (fun q=>mS q.minus q),(a+(vU p++tC l).length,false)):=by
 intro l
 induction l with
 | nil =>
   intro p n a m acc zEI hA hn;obtain⟨n,rfl⟩:∃k,n=k+1:=⟨n-1,by simp at hn;omega⟩;have hA':sP P a (vU p++[uP]):=by simpa[tC] using hA
   have hw:=hA'.app.2.1;rw[yi (aR hl4 (zEI p (by simp)) m (fun _=>by decide) hA') hw (fun _=>by decide)];simp[tC]
 | cons q r ih =>
   intro p n a m acc zEI hA hn;obtain⟨n,rfl⟩:∃k,n=k+1:=⟨n-1,by simp at hn;omega⟩;have hq:∀x∈q::r,qZ low x:=fun x hx=>zEI x (mc _ hx);have hp:=zEI p (by simp);cases hm:q.minus
   ·have e:vU p++tC (q::r)++[uP]=(vU p++[[43]])++(vU q++tC r++[uP]):=by simp[tC,fH,hm]
    rw[e]at hA;obtain⟨h1,h2⟩:=hA.app;have hs:=h1.app.2.1;rw[CY (aR hl4 hp m (fun _=>by decide) h1) hs];rw[tb,pj,<-cw]at h2;rw[ih q n _ false _ hq h2 (by simp at hn;omega)];refine Prod.ext (by simp[hm]) (Prod.ext ?_ rfl);simp[tC,fH,hm];omega
   ·have e:vU p++tC (q::r)++[uP]=(vU p++[[45]])++(vU q++tC r++[uP]):=by simp[tC,fH,hm]
    rw[e]at hA;obtain⟨h1,h2⟩:=hA.app;have hs:=h1.app.2.1;rw[UR (aR hl4 hp m (fun _=>by decide) h1) hs];rw[tb,pj,<-cw]at h2;rw[ih q n _ true _ hq h2 (by simp at hn;omega)];refine Prod.ext (by simp[hm]) (Prod.ext ?_ rfl);simp[tC,fH,hm];omega
theorem yg(ps:List yR):∀(l:List yR) (k:Nat),0<k->ps.drop k=l->((List.range l.length).flatMap fun j=>mB (k+j) (ps.getD (k+j) dQ))=tC l:=by
 intro l
 induction l with
 | nil=>intro k _ _;rfl
 | cons q r ih =>
   intro k hk hd
   have zE9:k<ps.length:=by
    rcases pf k ps.length with h|h
    ·exact h
    ·rw[p8 h]at hd;cases hd
   rw[pe zE9]at hd;injection hd with h1 h2
   have hg:ps.getD k dQ=q:=by simp[List.getD,zE9,h1]
   rw[ty,List.range_succ_eq_map,ba,List.flatMap_map];have hi:=ih (k+1) (by omega) h2
   have e:((List.range r.length).flatMap fun j=>mB (k+(j+1)) (ps.getD (k+(j+1)) dQ))=tC r:=by
    rw[<-hi];congr 1;funext j;rw[show k+(j+1)=k+1+j by omega]
   show mB (k+0) (ps.getD (k+0) dQ)++((List.range r.length).flatMap fun j=>mB (k+(j+1)) (ps.getD (k+(j+1)) dQ))=_;rw[e,mj,hg];have hs:cI k q=fH q:=by unfold cI fH;rw[t7 (by omega)]
   simp[tC,mB,vU,hs]
def gK:List yR->List yT
 | []=>[]
 | p::r=>mS false p::r.map fun q=>mS q.minus q
theorem VN(p:yR)(r:List yR):bL (p::r)=vU p++tC r:=by
 unfold bL tK;rw[ty,List.range_succ_eq_map,ba,List.flatMap_map];have h:=yg (p::r) r 1 (by decide) rfl
 have e:((List.range r.length).flatMap fun j=>mB (j+1) ((p::r).getD (j+1) dQ))=tC r:=by
  rw[<-h];congr 1;funext j;rw[Nat.add_comm]
 show mB 0 p++((List.range r.length).flatMap fun j=>mB (j+1) ((p::r).getD (j+1) dQ))=_;rw[e];simp[mB,vU,cI]
theorem CX{low:List Nat}(hl4:∀d∈low,d<4){ps:List yR}(h:jD low ps):SumR (gK ps) (bL ps):=by
 cases ps with
 | nil=>exact absurd h.1 (by simp)
 | cons p r =>
   intro P a hA hl;rw[VN]at hA hl ⊢;unfold kY;have h1:=h.2.1
   rw[UQ hl4 r p P.length a false [] h.2.2 hA (by
    have:r.length<=(tC r).length:=by
     clear h hA hl h1
     induction r with
     | nil=>simp
     | cons q r ih=>simp only[tC,ba,tb,ty]at ih ⊢;have:(fH q).length=1:=by unfold fH;split <;> rfl
                    omega
    rw[tb]at hl;omega)]
   rfl
end Go.Proofs.YtnbpdffdnphbeabGreatDoor
