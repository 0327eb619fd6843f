import Derived.Test.YtnbpdffdnphbeabGreatDoorFLines
namespace Go.Proofs.YtnbpdffdnphbeabGreatDoor
variable{n:Int}{low:List Nat}{i:Nat}{M:yB}(u:Nat)
theorem zA3{d:Nat}(h:d<10):so (UInt8.ofNat (48+d))=2:=(show ∀d:Nat,d<10->so (UInt8.ofNat (48+d))=2 by decide) d h
theorem Dm{d:Nat}(h:d<10):((UInt8.ofNat (48+d)).toNat:Int)=48+d:=(show ∀d:Nat,d<10->((UInt8.ofNat (48+d)).toNat:Int)=48+d by decide) d h
theorem Xy{u:Nat}(h:¬u<10):Lib.decDigits u=Lib.decDigits (u/10)++[UInt8.ofNat (48+u%10)]:=by
 rw[Lib.decDigits,dif_neg h]
theorem zHZ:∀c∈Lib.decDigits u,so c=2:=by
 induction u using Nat.strongRecOn with
 | _ u ih =>
   by_cases h:u<10
   ·rw[Lib.decDigits_one h]
    intro c hc;rw[pr.1 hc];exact zA3 h
   ·rw[Xy h]
    intro c hc;rcases ph.1 hc with h1|h1
    ·exact ih (u/10) (by omega) c h1
    ·rw[pr.1 h1];exact zA3 (by omega)
theorem zA6:Lib.decDigits u≠[]:=fun e=>by
 have h1:=Lib.decDigits_length u;have h2:=Lib.nDigits_pos u;rw[e]at h1;simp at h1;omega
theorem zd(s:Bs)(c:UInt8):∀a:Int,qA a (s++[c])=qA a s*10+((c.toNat:Int)-48):=by
 induction s with
 | nil=>intro a;simp[qA];omega
 | cons x r ih=>intro a;simp only[my,qA];rw[ih]
theorem zA4:qA 0 (Lib.decDigits u)=u:=by
 induction u using Nat.strongRecOn with
 | _ u ih =>
   by_cases h:u<10
   ·rw[Lib.decDigits_one h]
    simp only[qA];rw[Dm h];omega
   ·rw[Xy h,zd,ih (u/10) (by omega),Dm (by omega)]
    omega
theorem zEW{u:Nat}(h:u<=9999):(Lib.decDigits u).length<=4:=by
 rw[Lib.decDigits_length];by_cases h1:u<10
 ·rw[Lib.nDigits_small h1];decide
 ·rw[Lib.nDigits_big h1]
  by_cases h2:u/10<10
  ·rw[Lib.nDigits_small h2];decide
  ·rw[Lib.nDigits_big h2]
   by_cases h3:u/10/10<10
   ·rw[Lib.nDigits_small h3];decide
   ·rw[Lib.nDigits_big h3,Lib.nDigits_small (by omega)];decide
theorem B4(h:0<=n):Lib.itoa n=Lib.decDigits n.toNat:=by unfold Lib.itoa;rw[tj (by omega)]
theorem YZ(h0:0<=n)(h1:n<=9999):Lib.itoa n≠[]/\(∀c∈Lib.itoa n,so c=2)/\(Lib.itoa n).length<=4/\qA 0 (Lib.itoa n)=n:=by
 rw[B4 h0];exact⟨zA6 _,zHZ _,zEW (by omega),by rw[zA4];omega⟩
theorem zA7:0<u->(Lib.decDigits u).getD 0 0≠48:=by
 induction u using Nat.strongRecOn with
 | _ u ih =>
   intro h0;by_cases h:u<10
   ·rw[Lib.decDigits_one h]
    exact(show ∀u:Nat,u<10->0<u->([UInt8.ofNat (48+u)]:Bs).getD 0 0≠48 by decide) u h h0
   ·rw[Xy h]
    have h1:=ih (u/10) (by omega) (by omega);have h2:=zA6 (u/10)
    cases hd:Lib.decDigits (u/10) with
    | nil=>exact absurd hd h2
    | cons a r=>rw[hd]at h1;exact h1
theorem rE(h0:0<=n)(h1:n<=9999):yA (Lib.itoa n)=3/\qS (Lib.itoa n)=n:=by
 obtain⟨a1,a2,a3,a4⟩:=YZ h0 h1;have hh:so ((Lib.itoa n).getD 0 0)=2:=a2 _ (lD 0 (List.length_pos_iff.2 a1))
 have hz:¬(4<(Lib.itoa n).length\/1<(Lib.itoa n).length/\(Lib.itoa n).getD 0 0=48):=fun q=>by
  rcases q with q|⟨q1,q2⟩
  ·omega
  ·rw[B4 h0]at q1 q2
   by_cases hp:0<n.toNat
   ·exact zA7 _ hp q2
   ·rw[show n.toNat=0 by omega,Lib.decDigits_one (by decide)]at q1
    simp at q1
 have hk:yA (Lib.itoa n)=3:=by unfold yA;rw[tj (by rw[hh];decide),tr hh,tj hz]
 exact⟨hk,by unfold qS;rw[tr hk];exact a4⟩
def zHQ:List Bs:=[[110,111,116],[40],[41],iE,sG,[111,114],[97,110,100],[45],[43],[42],[114,117,108,101],[58],[61],[119,104,101,110],[59],[110,117,109],[46,46],[102,108,97,103],[111,118,101,114]]
def zHR:List Bs:=[[110,111,116],[40],[41],iE,sG,[111,114],[97,110,100],[45],[43],[42],[114,117,108,101],[58],[61],[119,104,101,110],[110,117,109],[46,46],[102,108,97,103],[111,118,101,114]]
structure iO(P:Bs->Prop):Prop where
 fix:∀x∈zHR,P x
 nam:∀f i,f=110\/f=102\/f=99\/f=114->i<8->P (xL f i)
 num:∀n:Int,0<=n->n<=9999->P (Lib.itoa n)
 mark:∀k,k<6->P (rC k)
structure Dw(P:Bs->Prop):Prop where
 fix:∀x∈zHQ,P x
 nam:∀f i,f=110\/f=102\/f=99\/f=114->i<8->P (xL f i)
 num:∀n:Int,0<=n->n<=9999->P (Lib.itoa n)
 mark:∀k,k<6->P (rC k)
theorem Dw.q{P:Bs->Prop}(h:Dw P):iO P:=⟨fun x hx=>h.fix x ((show ∀x∈zHR,x∈zHQ by decide) x hx),h.nam,h.num,h.mark⟩
def fL(P:Bs->Prop)(l:List Bs):Prop:=∀x∈l,P x
variable {P:Bs->Prop}
theorem fL.app{a b:List Bs}(ha:fL P a)(hb:fL P b):fL P (a++b):=fun x hx=>by
 rcases ph.1 hx with h|h
 ·exact ha x h
 ·exact hb x h
theorem vV:fL P []:=fun x hx=>by cases hx
theorem yL{a:Bs}{l:List Bs}(ha:P a)(hl:fL P l):fL P (a::l):=fun x hx=>by
 rcases pf.1 hx with rfl|h
 ·exact ha
 ·exact hl x h
theorem bK{p:Prop}[Decidable p]{a b:List Bs}(ha:p->fL P a)(hb:¬p->fL P b):fL P (if p then a else b):=by split <;> rename_i h;exact ha h;exact hb h
theorem VT{f:Nat->List Bs}{n:Nat}(h:∀i,i<n->fL P (f i)):fL P ((List.range n).flatMap f):=fun x hx=>by
 obtain⟨i,hi,hx'⟩:=bq.1 hx;exact h i (md.1 hi) x hx'
theorem iO.inp(h:iO P)(hi:i<5):P (yV i):=by
 unfold yV;split
 ·exact h.nam _ _ (.inl rfl) (by omega)
 ·exact h.nam _ _ (.inr (.inl rfl)) (by omega)
theorem iO.one(h:iO P){x:Bs}(hx:x∈zHR){p:Prop}[Decidable p]:fL P (if p then [x] else []):=bK (fun _=>yL (h.fix x hx) vV) (fun _=>vV)
theorem zAA(hP:iO P)(hl4:∀d∈low,d<4){t:yF}(h:vU low t):fL P (uS t):=by
 unfold uS;rcases h with h|⟨h,x1,x2⟩|⟨h,d,hd,hx⟩|⟨h,⟨x1,x2⟩,⟨y1,y2⟩,⟨m1,m2⟩,n1,n2⟩
 ·rw[tr h];exact yL (hP.fix _ (by decide)) vV
 ·rw[tj (by omega),tr h];exact yL (hP.inp (by omega)) vV
 ·rw[tj (by omega),tj (by omega),tr h]
  have:=hl4 d hd;exact yL (hP.fix _ (by decide)) (yL (hP.nam _ _ (.inr (.inr (.inl rfl))) (by omega)) vV)
 ·rw[tj (by omega),tj (by omega),tj (by omega)]
  exact bK (fun _=>yL (hP.inp (by omega)) (yL (hP.mark _ (by omega)) (yL (hP.num _ n1 n2) vV))) (fun _=>yL (hP.inp (by omega)) (yL (hP.mark _ (by omega)) (yL (hP.inp (by omega)) vV)))
theorem zC9(hP:iO P)(hl4:∀d∈low,d<4){t:yF}(h:vU low t)(lo:Bool):fL P (xH t lo):=by
 unfold xH;exact(((hP.one (by decide)).app (hP.one (by decide))).app (zAA hP hl4 h)).app (hP.one (by decide))
theorem zEH(hP:iO P)(hl4:∀d∈low,d<4){ts:List yF}(h:pE low ts)(wh lo:Bool):fL P (cP wh ts lo):=by
 unfold cP jW;refine(((hP.one (by decide)).app (hP.one (by decide))).app (VT fun i hi=>?_)).app (hP.one (by decide));refine fL.app ?_ (zC9 hP hl4 (h.2.2 _ (lD bR hi)) lo);unfold kU;exact bK (fun _=>vV) (fun _=>bK (fun _=>yL (hP.fix _ (by decide)) vV) (fun _=>yL (hP.fix _ (by decide)) vV))
theorem zCM(hP:iO P)(hl4:∀d∈low,d<4){ps:List xF}(h:tM low ps):fL P (cM ps):=by
 unfold cM mA;refine VT fun i hi=>?_;have hp:=h.2.2 _ (lD aV hi);generalize ps.getD i aV=p at *;unfold lI dS qG pO qO;refine(((bK (fun _=>vV) (fun _=>bK (fun _=>yL (hP.fix _ (by decide)) vV) (fun _=>yL (hP.fix _ (by decide)) vV))).app (bK (fun hc=>yL ?_ vV) (fun _=>vV))).app (hP.one (by decide))).app (bK (fun hn=>yL ?_ vV) (fun _=>bK (fun hh=>yL ?_ vV) (fun _=>vV)))
 ·rcases hp with ⟨-,h1,-,-⟩|⟨h0,h1,-⟩|⟨-,h1,-⟩|⟨h1,-,-⟩
  ·exact hP.num _ h1.1 h1.2
  ·rcases hc with hc|hc
   ·exact absurd (hc.symm.trans h0) (by simp)
   ·omega
  ·exact hP.num _ h1.1 (by omega)
  ·exact hP.num _ h1.1 (by omega)
 ·rcases hp with ⟨-,-,h1,-⟩|⟨-,h1,-⟩|⟨-,-,h1,-⟩|⟨-,h1,-⟩
  ·omega
  ·exact hP.inp (by omega)
  ·exact hP.inp (by omega)
  ·omega
 ·rcases hp with ⟨-,-,-,h1⟩|⟨-,-,h1⟩|⟨-,-,-,h1⟩|⟨-,-,d,hd,h1⟩
  ·omega
  ·omega
  ·omega
  ·have:=hl4 d hd
   exact hP.nam _ _ (.inr (.inr (.inl rfl))) (by omega)
theorem FC(hP:Dw P)(h:yH M)(lo:Bool):∀l∈xW M lo,fL P l:=fun l hl=>by
 have h8:=h.few;unfold xW at hl;rcases ph.1 hl with hl|hl
 ·rcases ph.1 hl with hl|hl
  ·obtain⟨i,hi,rfl⟩:=pd.1 hl
   have hi5:=md.1 hi;unfold gE;split
   ·rename_i h3
    have:=h.nums i h3;exact yL (hP.fix _ (by decide)) (yL (hP.q.inp hi5) (yL (hP.num _ (by omega) (by omega)) (yL (hP.fix _ (by decide)) (yL (hP.num _ (by omega) (by omega)) (yL (hP.fix _ (by decide)) vV)))))
   ·exact yL (hP.fix _ (by decide)) (yL (hP.q.inp hi5) (yL (hP.fix _ (by decide)) vV))
  ·obtain⟨i,hi,rfl⟩:=pd.1 hl
   have hr:=h.rules _ (lD lU (md.1 hi));have hi8:=md.1 hi;generalize M.rules.getD i lU=r at *;have hh:=hr.head;have hl4:∀d∈xJ M.heads r.head,d<4:=fun d hd=>by have:=eX hd;omega
   have q1:fL P [[114,117,108,101],xL 114 i,[58],xL 99 r.head,[61]]:=yL (hP.fix _ (by decide)) (yL (hP.nam _ _ (.inr (.inr (.inr rfl))) (by omega)) (yL (hP.fix _ (by decide)) (yL (hP.nam _ _ (.inr (.inr (.inl rfl))) (by omega)) (yL (hP.fix _ (by decide)) vV))));unfold cO;exact(((q1.app (zCM hP.q hl4 hr.parts)).app (yL (hP.fix _ (by decide)) vV)).app (zEH hP.q hl4 hr.tests _ _)).app (yL (hP.fix _ (by decide)) vV)
 ·obtain⟨i,hi,hl⟩:=bq.1 hl
  have hi8:=md.1 hi;unfold tU at hl;obtain⟨j,hj,hl⟩:=bq.1 hl;have hj8:=md.1 hj;split at hl
  ·rw[pr.1 hl]
   exact yL (hP.fix _ (by decide)) (yL (hP.nam _ _ (.inr (.inr (.inr rfl))) (by omega)) (yL (hP.nam _ _ (.inr (.inr (.inr rfl))) (by omega)) (yL (hP.fix _ (by decide)) vV)))
  ·cases hl
theorem zHP{f:UInt8}(hf:f=110\/f=102\/f=99\/f=114)(hi:i<8):∀x∈xL f i,so x=1:=by
 have h:i=0\/i=1\/i=2\/i=3\/i=4\/i=5\/i=6\/i=7:=by omega
 rcases hf with rfl|rfl|rfl|rfl <;> rcases h with rfl|rfl|rfl|rfl|rfl|rfl|rfl|rfl <;> decide
theorem zC0:Dw Wd:=by
 have run:∀x:Bs,x≠[]->(∀c∈x,so c=1)->Wd x:=fun x h1 h2=>GY 1 (.inl rfl) h1 h2;have m1:∀m:UInt8,so m=0->jO jD [m,32]=false->jO jD [m,59]=false->jO jD [m,10]=false->Wd [m]:=fun m a b c d=>zC1 a b c d;refine⟨fun x hx=>?_,fun f i hf hi=>run _ (by unfold xL;simp) (zHP hf hi),fun n h0 h1=>GY 2 (.inr rfl) (YZ h0 h1).1 (YZ h0 h1).2.1,fun k hk=>?_⟩
 ·simp only[zHQ,pf,lu,dc]at hx
  rcases hx with rfl|rfl|rfl|rfl|rfl|rfl|rfl|rfl|rfl|rfl|rfl|rfl|rfl|rfl|rfl|rfl|rfl|rfl|rfl
  all_goals first
   | exact run _ (by decide) (by decide)
   | exact m1 _ (by decide) (by decide) (by decide) (by decide)
   | exact Kq (by decide) (by decide)
 ·have h:k=0\/k=1\/k=2\/k=3\/k=4\/k=5:=by omega
  rcases h with rfl|rfl|rfl|rfl|rfl|rfl
  all_goals first
   | exact m1 _ (by decide) (by decide) (by decide) (by decide)
   | exact Kq (by decide) (by decide)
theorem qk(h:yH M)(lo:Bool):∀l∈xW M lo,∀x∈l,Wd x:=FC zC0 h lo
theorem ZT(h:yH M)(lo:Bool):tw (Yp (xW M lo))=(xW M lo).flatten:=zG9 _ (qk h lo)
theorem Fc{r a b:Bs}(hr:yA r=2)(ha:yA a=3)(hb:yA b=3):Dx ⟨1,r,qS a,qS b,[],[],[],0,0,0,[]⟩ [[110,117,109],r,a,[46,46],b,uX]:=by
 refine⟨fun w r h=>by cases h;decide,by simp,fun P x h _=>?_⟩;obtain⟨h0,h1,h2,h3,h4,h5,_⟩:=h;unfold vG;simp only[lV h0 (by decide)];unfold qU;simp only[mX h1 hr,nT h2 ha,dH h3 (by decide),nT h4 hb,show ([59]:Bs)=uX from rfl,dH h5 (by decide)];rfl
theorem UH{r:Bs}(hr:yA r=2):Dx ⟨2,r,0,0,[],[],[],0,0,0,[]⟩ [[102,108,97,103],r,uX]:=by
 refine⟨fun w r h=>by cases h;decide,by simp,fun P x h _=>?_⟩;obtain⟨h0,h1,h2,_⟩:=h;unfold vG;simp only[kB h0 [110,117,109] (fun _=>by decide),lV h0 (by decide)];unfold kM;simp only[mX h1 hr,show ([59]:Bs)=uX from rfl,dH h2 (by decide)];rfl
def uI(p:xF):List Bs:=qG p++pO p++qO p
def nK(p:xF):List Bs:=if p.minus=true then [[45]] else [[43]]
def pM(l:List xF):List Bs:=l.flatMap fun q=>nK q++uI q
def rW(m:Bool)(p:xF):yQ:=if p.times=true then ⟨m,true,p.n,if 0<=p.num then yV p.num.toNat else xL 99 p.head.toNat⟩ else if 0<=p.num then ⟨m,false,0,yV p.num.toNat⟩ else if 0<=p.head then ⟨m,false,0,xL 99 p.head.toNat⟩ else ⟨m,false,p.n,[]⟩
theorem mF{f:UInt8}(hf:f=110\/f=102\/f=99\/f=114)(hi:i<8):yA (xL f i)=2:=by
 have h:i=0\/i=1\/i=2\/i=3\/i=4\/i=5\/i=6\/i=7:=by omega
 rcases hf with rfl|rfl|rfl|rfl <;> rcases h with rfl|rfl|rfl|rfl|rfl|rfl|rfl|rfl <;> decide
theorem bP(hi:i<5):yA (yV i)=2:=by
 unfold yV;split
 ·exact mF (.inl rfl) (by omega)
 ·exact mF (.inr (.inl rfl)) (by omega)
theorem Zg(hl4:∀d∈low,d<4){p:xF}(h:lF low p){P:List PT}{a:Nat}{v:Bs}(m:Bool)(hv:yA v=4->v≠[42])(hA:iX P a (uI p++[v])):vM P m (a,false)=(rW m p,(a+(uI p).length,false)):=by
 obtain⟨mi,ti,n,nu,hd⟩:=p;rcases h with ⟨h0,h1,h2,h3⟩|⟨h0,h1,h2⟩|⟨h0,h1,h2,h3⟩|⟨h1,h2,d,hd4,h3⟩
 ·simp only at h0 h1 h2 h3
  subst h0 h2 h3;have e:uI ⟨mi,false,n,-1,-1⟩=[Lib.itoa n]:=by simp[uI,qG,pO,qO]
  rw[e]at hA ⊢;obtain⟨k1,k2⟩:=rE h1.1 h1.2;rw[vm m hA.1 k1 hA.2.1 hv,k2];rfl
 ·simp only at h0 h1 h2
  subst h0 h2;have e:uI ⟨mi,false,n,nu,-1⟩=[yV nu.toNat]:=by simp[uI,qG,pO,qO,h1.1]
  rw[e]at hA ⊢;rw[Qv m hA.1 (bP (by omega))];simp[rW,h1.1]
 ·simp only at h0 h1 h2 h3
  subst h0 h3;have e:uI ⟨mi,true,n,nu,-1⟩=[Lib.itoa n,[42],yV nu.toNat]:=by simp[uI,qG,pO,qO,h2.1]
  rw[e]at hA ⊢;obtain⟨k1,k2⟩:=rE h1.1 (by omega);rw[Qu m hA.1 k1 hA.2.1 hA.2.2.1 (bP (by omega)),k2];simp[rW,h2.1]
 ·simp only at h1 h2 h3
  subst h2 h3;have hd4':=hl4 d hd4;cases ti
  ·have e:uI ⟨mi,false,n,-1,d⟩=[xL 99 d]:=by simp[uI,qG,pO,qO]
   rw[e]at hA ⊢;rw[Qv m hA.1 (mF (.inr (.inr (.inl rfl))) (by omega))];simp[rW]
  ·have e:uI ⟨mi,true,n,-1,d⟩=[Lib.itoa n,[42],xL 99 d]:=by simp[uI,qG,pO,qO]
   rw[e]at hA ⊢;obtain⟨k1,k2⟩:=rE h1.1 (by omega);rw[Qu m hA.1 k1 hA.2.1 hA.2.2.1 (mF (.inr (.inr (.inl rfl))) (by omega)),k2];simp[rW]
theorem DE(hl4:∀d∈low,d<4){P:List PT}:∀(l:List xF) (p:xF) (n a:Nat) (m:Bool) (acc:List yQ),(∀q∈p::l,lF low q)->iX P a (uI p++pM l++[xC])->l.length<n->jF P n m (a,false) acc=(acc++rW m p::l.map (fun q=>rW q.minus q),(a+(uI p++pM l).length,false)):=by
 intro l
 induction l with
 | nil =>
   intro p n a m acc zK4 hA hn;obtain⟨n,rfl⟩:∃k,n=k+1:=⟨n-1,by simp at hn;omega⟩;have hA':iX P a (uI p++[xC]):=by simpa[pM] using hA
   have hw:=hA'.app.2.1;rw[zCK (Zg hl4 (zK4 p (by simp)) m (fun _=>by decide) hA') hw (fun _=>by decide)];simp[pM]
 | cons q r ih =>
   intro p n a m acc zK4 hA hn;obtain⟨n,rfl⟩:∃k,n=k+1:=⟨n-1,by simp at hn;omega⟩;have hq:∀x∈q::r,lF low x:=fun x hx=>zK4 x (pt _ hx);have hp:=zK4 p (by simp);cases hm:q.minus
   ·have e:uI p++pM (q::r)++[xC]=(uI p++[[43]])++(uI q++pM r++[xC]):=by simp[pM,nK,hm]
    rw[e]at hA;obtain⟨h1,h2⟩:=hA.app;have hs:=h1.app.2.1;rw[yg (Zg hl4 hp m (fun _=>by decide) h1) hs];rw[tq,mh,<-df]at h2;rw[ih q n _ false _ hq h2 (by simp at hn;omega)];refine Prod.ext (by simp[hm]) (Prod.ext ?_ rfl);simp[pM,nK,hm];omega
   ·have e:uI p++pM (q::r)++[xC]=(uI p++[[45]])++(uI q++pM r++[xC]):=by simp[pM,nK,hm]
    rw[e]at hA;obtain⟨h1,h2⟩:=hA.app;have hs:=h1.app.2.1;rw[DJ (Zg hl4 hp m (fun _=>by decide) h1) hs];rw[tq,mh,<-df]at h2;rw[ih q n _ true _ hq h2 (by simp at hn;omega)];refine Prod.ext (by simp[hm]) (Prod.ext ?_ rfl);simp[pM,nK,hm];omega
theorem zCH(ps:List xF):∀(l:List xF) (k:Nat),0<k->ps.drop k=l->((List.range l.length).flatMap fun j=>lI (k+j) (ps.getD (k+j) aV))=pM l:=by
 intro l
 induction l with
 | nil=>intro k _ _;rfl
 | cons q r ih =>
   intro k hk hd
   have zJS:k<ps.length:=by
    rcases py k ps.length with h|h
    ·exact h
    ·rw[pe h]at hd;cases hd
   rw[pi zJS]at hd;injection hd with h1 h2
   have hg:ps.getD k aV=q:=by simp[List.getD,zJS,h1]
   rw[tz,List.range_succ_eq_map,co,List.flatMap_map];have hi:=ih (k+1) (by omega) h2
   have e:((List.range r.length).flatMap fun j=>lI (k+(j+1)) (ps.getD (k+(j+1)) aV))=pM r:=by
    rw[<-hi];congr 1;funext j;rw[show k+(j+1)=k+1+j by omega]
   show lI (k+0) (ps.getD (k+0) aV)++((List.range r.length).flatMap fun j=>lI (k+(j+1)) (ps.getD (k+(j+1)) aV))=_;rw[e,mz,hg];have hs:dS k q=nK q:=by unfold dS nK;rw[tj (by omega)]
   simp[pM,lI,uI,hs]
def Xv:List xF->List yQ
 | []=>[]
 | p::r=>rW false p::r.map fun q=>rW q.minus q
theorem C2(p:xF)(r:List xF):cM (p::r)=uI p++pM r:=by
 unfold cM mA;rw[tz,List.range_succ_eq_map,co,List.flatMap_map];have h:=zCH (p::r) r 1 (by decide) rfl
 have e:((List.range r.length).flatMap fun j=>lI (j+1) ((p::r).getD (j+1) aV))=pM r:=by
  rw[<-h];congr 1;funext j;rw[Nat.add_comm]
 show lI 0 p++((List.range r.length).flatMap fun j=>lI (j+1) ((p::r).getD (j+1) aV))=_;rw[e];simp[lI,uI,dS]
theorem yf(hl4:∀d∈low,d<4){ps:List xF}(h:tM low ps):SumR (Xv ps) (cM ps):=by
 cases ps with
 | nil=>exact absurd h.1 (by simp)
 | cons p r =>
   intro P a hA hl;rw[C2]at hA hl ⊢;unfold kZ;have h1:=h.2.1
   rw[DE hl4 r p P.length a false [] h.2.2 hA (by
    have:r.length<=(pM r).length:=by
     clear h hA hl h1
     induction r with
     | nil=>simp
     | cons q r ih=>simp only[pM,co,tq,tz]at ih ⊢;have:(nK q).length=1:=by unfold nK;split <;> rfl
                    omega
    rw[tq]at hl;omega)]
   rfl
end Go.Proofs.YtnbpdffdnphbeabGreatDoor
