import Derived.Test.YtnbpdffdnphbeabGreatDoorFLines
namespace Go.Proofs.YtnbpdffdnphbeabGreatDoor
variable{n:Int}{i:Nat}{M:yC}(u:Nat)
theorem zA0{d:Nat}(h:d<10):so (UInt8.ofNat (48+d))=2:=(show ∀d:Nat,d<10->so (UInt8.ofNat (48+d))=2 by decide) d h
theorem Du{d:Nat}(h:d<10):((UInt8.ofNat (48+d)).toNat:Int)=48+d:=(show ∀d:Nat,d<10->((UInt8.ofNat (48+d)).toNat:Int)=48+d by decide) d h
theorem X9{u:Nat}(h:¬u<10):Lib.decDigits u=Lib.decDigits (u/10)++[UInt8.ofNat (48+u%10)]:=by
 rw[Lib.decDigits,dif_neg h]
theorem zIB:∀c∈Lib.decDigits u,so c=2:=by
 induction u using Nat.strongRecOn with
 | _ u ih =>
   by_cases h:u<10
   ·rw[Lib.decDigits_one h]
    intro c hc;rw[pw.1 hc];exact zA0 h
   ·rw[X9 h]
    intro c hc;rcases pu.1 hc with h1|h1
    ·exact ih (u/10) (by omega) c h1
    ·rw[pw.1 h1];exact zA0 (by omega)
theorem zA2:Lib.decDigits u≠[]:=fun e=>by
 have h1:=Lib.decDigits_length u;have h2:=Lib.nDigits_pos u;rw[e]at h1;simp at h1;omega
theorem zj(s:Bs)(c:UInt8):∀a:Int,lN a (s++[c])=lN a s*10+((c.toNat:Int)-48):=by
 induction s with
 | nil=>intro a;simp[lN];omega
 | cons x r ih=>intro a;simp only[cd,lN];rw[ih]
theorem zA1:lN 0 (Lib.decDigits u)=u:=by
 induction u using Nat.strongRecOn with
 | _ u ih =>
   by_cases h:u<10
   ·rw[Lib.decDigits_one h]
    simp only[lN];rw[Du h];omega
   ·rw[X9 h,zj,ih (u/10) (by omega),Du (by omega)]
    omega
theorem zEF{u:Nat}(h:u<=9999):(Lib.decDigits u).length<=4:=by
 rw[Lib.decDigits_length];by_cases h1:u<10
 ·rw[Lib.nDigits_small h1];decide
 ·rw[Lib.nDigits_big h1]
  by_cases h2:u/10<10
  ·rw[Lib.nDigits_small h2];decide
  ·rw[Lib.nDigits_big h2]
   by_cases h3:u/10/10<10
   ·rw[Lib.nDigits_small h3];decide
   ·rw[Lib.nDigits_big h3,Lib.nDigits_small (by omega)];decide
theorem B5(h:0<=n):Lib.itoa n=Lib.decDigits n.toNat:=by unfold Lib.itoa;rw[tb (by omega)]
theorem nO(h0:0<=n)(h1:n<=9999):Lib.itoa n≠[]/\(∀c∈Lib.itoa n,so c=2)/\(Lib.itoa n).length<=4/\lN 0 (Lib.itoa n)=n:=by
 rw[B5 h0];exact⟨zA2 _,zIB _,zEF (by omega),by rw[zA1];omega⟩
theorem zA3:0<u->(Lib.decDigits u).getD 0 0≠48:=by
 induction u using Nat.strongRecOn with
 | _ u ih =>
   intro h0;by_cases h:u<10
   ·rw[Lib.decDigits_one h]
    exact(show ∀u:Nat,u<10->0<u->([UInt8.ofNat (48+u)]:Bs).getD 0 0≠48 by decide) u h h0
   ·rw[X9 h]
    have h1:=ih (u/10) (by omega) (by omega);have h2:=zA2 (u/10)
    cases hd:Lib.decDigits (u/10) with
    | nil=>exact absurd hd h2
    | cons a r=>rw[hd]at h1;exact h1
theorem gT(h0:0<=n)(h1:n<=9999):yJ (Lib.itoa n)=3/\kK (Lib.itoa n)=n:=by
 obtain⟨a1,a2,a3,a4⟩:=nO h0 h1;have hh:so ((Lib.itoa n).getD 0 0)=2:=a2 _ (tN 0 (List.length_pos_iff.2 a1))
 have hz:¬(4<(Lib.itoa n).length\/1<(Lib.itoa n).length/\(Lib.itoa n).getD 0 0=48):=fun q=>by
  rcases q with q|⟨q1,q2⟩
  ·omega
  ·rw[B5 h0]at q1 q2
   by_cases hp:0<n.toNat
   ·exact zA3 _ hp q2
   ·rw[show n.toNat=0 by omega,Lib.decDigits_one (by decide)]at q1
    simp at q1
 have hk:yJ (Lib.itoa n)=3:=by unfold yJ;rw[tb (by rw[hh];decide),tm hh,tb hz]
 exact⟨hk,by unfold kK;rw[tm hk];exact a4⟩
def zI2:List Bs:=[[110,111,116],[40],[41],iG,sT,[111,114],[97,110,100],[45],[43],[42],[114,117,108,101],[58],[61],[119,104,101,110],[59],[110,117,109],[46,46],[102,108,97,103],[111,118,101,114]]
def zI3:List Bs:=[[110,111,116],[40],[41],iG,sT,[111,114],[97,110,100],[45],[43],[42],[114,117,108,101],[58],[61],[119,104,101,110],[110,117,109],[46,46],[102,108,97,103],[111,118,101,114]]
structure iY(P:Bs->Prop):Prop where
 fix:∀x∈zI3,P x
 nam:∀f i,f=110\/f=102\/f=99\/f=114->i<8->P (yZ f i)
 num:∀n:Int,0<=n->n<=9999->P (Lib.itoa n)
 mark:∀k,k<6->P (sA k)
structure D5(P:Bs->Prop):Prop where
 fix:∀x∈zI2,P x
 nam:∀f i,f=110\/f=102\/f=99\/f=114->i<8->P (yZ f i)
 num:∀n:Int,0<=n->n<=9999->P (Lib.itoa n)
 mark:∀k,k<6->P (sA k)
theorem D5.q{P:Bs->Prop}(h:D5 P):iY P:=⟨fun x hx=>h.fix x ((show ∀x∈zI3,x∈zI2 by decide) x hx),h.nam,h.num,h.mark⟩
def fZ(P:Bs->Prop)(l:List Bs):Prop:=∀x∈l,P x
variable {P:Bs->Prop}
theorem fZ.app{a b:List Bs}(ha:fZ P a)(hb:fZ P b):fZ P (a++b):=fun x hx=>by
 rcases pu.1 hx with h|h
 ·exact ha x h
 ·exact hb x h
theorem vV:fZ P []:=fun x hx=>by cases hx
theorem yO{a:Bs}{l:List Bs}(ha:P a)(hl:fZ P l):fZ P (a::l):=fun x hx=>by
 rcases mz.1 hx with rfl|h
 ·exact ha
 ·exact hl x h
theorem bT{p:Prop}[Decidable p]{a b:List Bs}(ha:p->fZ P a)(hb:¬p->fZ P b):fZ P (if p then a else b):=by split <;> rename_i h;exact ha h;exact hb h
theorem Ug{f:Nat->List Bs}{n:Nat}(h:∀i,i<n->fZ P (f i)):fZ P ((List.range n).flatMap f):=fun x hx=>by
 obtain⟨i,hi,hx'⟩:=bh.1 hx;exact h i (pq.1 hi) x hx'
theorem iY.inp(h:iY P)(hi:i<5):P (yK i):=by
 unfold yK;split
 ·exact h.nam _ _ (.inl rfl) (by omega)
 ·exact h.nam _ _ (.inr (.inl rfl)) (by omega)
theorem iY.one(h:iY P){x:Bs}(hx:x∈zI3){p:Prop}[Decidable p]:fZ P (if p then [x] else []):=bT (fun _=>yO (h.fix x hx) vV) (fun _=>vV)
theorem zA6(hP:iY P){low:List Nat}(hl4:∀d∈low,d<4){t:yB}(h:vB low t):fZ P (uN t):=by
 unfold uN;rcases h with h|⟨h,x1,x2⟩|⟨h,d,hd,hx⟩|⟨h,⟨x1,x2⟩,⟨y1,y2⟩,⟨m1,m2⟩,n1,n2⟩
 ·rw[tm h];exact yO (hP.fix _ (by decide)) vV
 ·rw[tb (by omega),tm h];exact yO (hP.inp (by omega)) vV
 ·rw[tb (by omega),tb (by omega),tm h]
  have:=hl4 d hd;exact yO (hP.fix _ (by decide)) (yO (hP.nam _ _ (.inr (.inr (.inl rfl))) (by omega)) vV)
 ·rw[tb (by omega),tb (by omega),tb (by omega)]
  exact bT (fun _=>yO (hP.inp (by omega)) (yO (hP.mark _ (by omega)) (yO (hP.num _ n1 n2) vV))) (fun _=>yO (hP.inp (by omega)) (yO (hP.mark _ (by omega)) (yO (hP.inp (by omega)) vV)))
theorem zBT(hP:iY P){low:List Nat}(hl4:∀d∈low,d<4){t:yB}(h:vB low t)(lo:Bool):fZ P (xC t lo):=by
 unfold xC;exact(((hP.one (by decide)).app (hP.one (by decide))).app (zA6 hP hl4 h)).app (hP.one (by decide))
theorem zDX(hP:iY P){low:List Nat}(hl4:∀d∈low,d<4){ts:List yB}(h:tF low ts)(wh lo:Bool):fZ P (bE wh ts lo):=by
 unfold bE jF;refine(((hP.one (by decide)).app (hP.one (by decide))).app (Ug fun i hi=>?_)).app (hP.one (by decide));refine fZ.app ?_ (zBT hP hl4 (h.2.2 _ (tN bQ hi)) lo);unfold kO;exact bT (fun _=>vV) (fun _=>bT (fun _=>yO (hP.fix _ (by decide)) vV) (fun _=>yO (hP.fix _ (by decide)) vV))
theorem zC4(hP:iY P){low:List Nat}(hl4:∀d∈low,d<4){ps:List xJ}(h:jG low ps):fZ P (bK ps):=by
 unfold bK pE;refine Ug fun i hi=>?_;have hp:=h.2.2 _ (tN sU hi);generalize ps.getD i sU=p at *;unfold mN dK uW tS qD;refine(((bT (fun _=>vV) (fun _=>bT (fun _=>yO (hP.fix _ (by decide)) vV) (fun _=>yO (hP.fix _ (by decide)) vV))).app (bT (fun hc=>yO ?_ vV) (fun _=>vV))).app (hP.one (by decide))).app (bT (fun hn=>yO ?_ vV) (fun _=>bT (fun hh=>yO ?_ vV) (fun _=>vV)))
 ·rcases hp with ⟨-,h1,-,-⟩|⟨h0,h1,-⟩|⟨-,h1,-⟩|⟨h1,-,-⟩
  ·exact hP.num _ h1.1 h1.2
  ·rcases hc with hc|hc
   ·exact absurd (hc.symm.trans h0) (by simp)
   ·omega
  ·exact hP.num _ h1.1 (by omega)
  ·exact hP.num _ h1.1 (by omega)
 ·rcases hp with ⟨-,-,h1,-⟩|⟨-,h1,-⟩|⟨-,-,h1,-⟩|⟨-,h1,-⟩
  ·omega
  ·exact hP.inp (by omega)
  ·exact hP.inp (by omega)
  ·omega
 ·rcases hp with ⟨-,-,-,h1⟩|⟨-,-,h1⟩|⟨-,-,-,h1⟩|⟨-,-,d,hd,h1⟩
  ·omega
  ·omega
  ·omega
  ·have:=hl4 d hd
   exact hP.nam _ _ (.inr (.inr (.inl rfl))) (by omega)
theorem FD(hP:D5 P)(h:yD M)(lo:Bool):∀l∈vF M lo,fZ P l:=fun l hl=>by
 have h8:=h.few;unfold vF at hl;rcases pu.1 hl with hl|hl
 ·rcases pu.1 hl with hl|hl
  ·obtain⟨i,hi,rfl⟩:=p8.1 hl
   have hi5:=pq.1 hi;unfold fR;split
   ·rename_i h3
    have:=h.nums i h3;exact yO (hP.fix _ (by decide)) (yO (hP.q.inp hi5) (yO (hP.num _ (by omega) (by omega)) (yO (hP.fix _ (by decide)) (yO (hP.num _ (by omega) (by omega)) (yO (hP.fix _ (by decide)) vV)))))
   ·exact yO (hP.fix _ (by decide)) (yO (hP.q.inp hi5) (yO (hP.fix _ (by decide)) vV))
  ·obtain⟨i,hi,rfl⟩:=p8.1 hl
   have hr:=h.rules _ (tN gE (pq.1 hi));have hi8:=pq.1 hi;generalize M.rules.getD i gE=r at *;have hh:=hr.head;have hl4:∀d∈xH M.heads r.head,d<4:=fun d hd=>by have:=iB hd;omega
   have q1:fZ P [[114,117,108,101],yZ 114 i,[58],yZ 99 r.head,[61]]:=yO (hP.fix _ (by decide)) (yO (hP.nam _ _ (.inr (.inr (.inr rfl))) (by omega)) (yO (hP.fix _ (by decide)) (yO (hP.nam _ _ (.inr (.inr (.inl rfl))) (by omega)) (yO (hP.fix _ (by decide)) vV))));unfold cF;exact(((q1.app (zC4 hP.q hl4 hr.parts)).app (yO (hP.fix _ (by decide)) vV)).app (zDX hP.q hl4 hr.tests _ _)).app (yO (hP.fix _ (by decide)) vV)
 ·obtain⟨i,hi,hl⟩:=bh.1 hl
  have hi8:=pq.1 hi;unfold tE at hl;obtain⟨j,hj,hl⟩:=bh.1 hl;have hj8:=pq.1 hj;split at hl
  ·rw[pw.1 hl]
   exact yO (hP.fix _ (by decide)) (yO (hP.nam _ _ (.inr (.inr (.inr rfl))) (by omega)) (yO (hP.nam _ _ (.inr (.inr (.inr rfl))) (by omega)) (yO (hP.fix _ (by decide)) vV)))
  ·cases hl
theorem zI1{f:UInt8}(hf:f=110\/f=102\/f=99\/f=114)(hi:i<8):∀x∈yZ f i,so x=1:=by
 have h:i=0\/i=1\/i=2\/i=3\/i=4\/i=5\/i=6\/i=7:=by omega
 rcases hf with rfl|rfl|rfl|rfl <;> rcases h with rfl|rfl|rfl|rfl|rfl|rfl|rfl|rfl <;> decide
theorem zBE:D5 Wd:=by
 have run:∀x:Bs,x≠[]->(∀c∈x,so c=1)->Wd x:=fun x h1 h2=>wO 1 (.inl rfl) h1 h2;have m1:∀m:UInt8,so m=0->lD kX [m,32]=false->lD kX [m,59]=false->lD kX [m,10]=false->Wd [m]:=fun m a b c d=>Jp a b c d;refine⟨fun x hx=>?_,fun f i hf hi=>run _ (by unfold yZ;simp) (zI1 hf hi),fun n h0 h1=>wO 2 (.inr rfl) (nO h0 h1).1 (nO h0 h1).2.1,fun k hk=>?_⟩
 ·simp only[zI2,mz,fa,or_false]at hx
  rcases hx with rfl|rfl|rfl|rfl|rfl|rfl|rfl|rfl|rfl|rfl|rfl|rfl|rfl|rfl|rfl|rfl|rfl|rfl|rfl
  all_goals first
   | exact run _ (by decide) (by decide)
   | exact m1 _ (by decide) (by decide) (by decide) (by decide)
   | exact Kz (by decide) (by decide)
 ·have h:k=0\/k=1\/k=2\/k=3\/k=4\/k=5:=by omega
  rcases h with rfl|rfl|rfl|rfl|rfl|rfl
  all_goals first
   | exact m1 _ (by decide) (by decide) (by decide) (by decide)
   | exact Kz (by decide) (by decide)
theorem uy(h:yD M)(lo:Bool):∀l∈vF M lo,∀x∈l,Wd x:=FD zBE h lo
theorem zBV(h:yD M)(lo:Bool):tw (eK (vF M lo))=(vF M lo).flatten:=zm _ (uy h lo)
theorem Fm{r a b:Bs}(hr:yJ r=2)(ha:yJ a=3)(hb:yJ b=3):D6 ⟨1,r,kK a,kK b,[],[],[],0,0,0,[]⟩ [[110,117,109],r,a,[46,46],b,cP]:=by
 refine⟨fun w r h=>by cases h;decide,by simp,fun P x h _=>?_⟩;obtain⟨h0,h1,h2,h3,h4,h5,_⟩:=h;unfold vZ;simp only[bA h0 (by decide)];unfold cK;simp only[mU h1 hr,oK h2 ha,dP h3 (by decide),oK h4 hb,show ([59]:Bs)=cP from rfl,dP h5 (by decide)];rfl
theorem UQ{r:Bs}(hr:yJ r=2):D6 ⟨2,r,0,0,[],[],[],0,0,0,[]⟩ [[102,108,97,103],r,cP]:=by
 refine⟨fun w r h=>by cases h;decide,by simp,fun P x h _=>?_⟩;obtain⟨h0,h1,h2,_⟩:=h;unfold vZ;simp only[qX h0 [110,117,109] (fun _=>by decide),bA h0 (by decide)];unfold mT;simp only[mU h1 hr,show ([59]:Bs)=cP from rfl,dP h2 (by decide)];rfl
def uO(p:xJ):List Bs:=uW p++tS p++qD p
def oB(p:xJ):List Bs:=if p.minus=true then [[45]] else [[43]]
def pD(l:List xJ):List Bs:=l.flatMap fun q=>oB q++uO q
def nY(m:Bool)(p:xJ):xE:=if p.times=true then ⟨m,true,p.n,if 0<=p.num then yK p.num.toNat else yZ 99 p.head.toNat⟩ else if 0<=p.num then ⟨m,false,0,yK p.num.toNat⟩ else if 0<=p.head then ⟨m,false,0,yZ 99 p.head.toNat⟩ else ⟨m,false,p.n,[]⟩
theorem pX{f:UInt8}(hf:f=110\/f=102\/f=99\/f=114)(hi:i<8):yJ (yZ f i)=2:=by
 have h:i=0\/i=1\/i=2\/i=3\/i=4\/i=5\/i=6\/i=7:=by omega
 rcases hf with rfl|rfl|rfl|rfl <;> rcases h with rfl|rfl|rfl|rfl|rfl|rfl|rfl|rfl <;> decide
theorem mZ(hi:i<5):yJ (yK i)=2:=by
 unfold yK;split
 ·exact pX (.inl rfl) (by omega)
 ·exact pX (.inr (.inl rfl)) (by omega)
theorem Zp{low:List Nat}(hl4:∀d∈low,d<4){p:xJ}(h:pA low p){P:List PT}{a:Nat}{v:Bs}(m:Bool)(hv:yJ v=4->v≠[42])(hA:wH P a (uO p++[v])):qB P m (a,false)=(nY m p,(a+(uO p).length,false)):=by
 obtain⟨mi,ti,n,nu,hd⟩:=p;rcases h with ⟨h0,h1,h2,h3⟩|⟨h0,h1,h2⟩|⟨h0,h1,h2,h3⟩|⟨h1,h2,d,hd4,h3⟩
 ·simp only at h0 h1 h2 h3
  subst h0 h2 h3;have e:uO ⟨mi,false,n,-1,-1⟩=[Lib.itoa n]:=by simp[uO,uW,tS,qD]
  rw[e]at hA ⊢;obtain⟨k1,k2⟩:=gT h1.1 h1.2;rw[vj m hA.1 k1 hA.2.1 hv,k2];rfl
 ·simp only at h0 h1 h2
  subst h0 h2;have e:uO ⟨mi,false,n,nu,-1⟩=[yK nu.toNat]:=by simp[uO,uW,tS,qD,h1.1]
  rw[e]at hA ⊢;rw[Q6 m hA.1 (mZ (by omega))];simp[nY,h1.1]
 ·simp only at h0 h1 h2 h3
  subst h0 h3;have e:uO ⟨mi,true,n,nu,-1⟩=[Lib.itoa n,[42],yK nu.toNat]:=by simp[uO,uW,tS,qD,h2.1]
  rw[e]at hA ⊢;obtain⟨k1,k2⟩:=gT h1.1 (by omega);rw[Q5 m hA.1 k1 hA.2.1 hA.2.2.1 (mZ (by omega)),k2];simp[nY,h2.1]
 ·simp only at h1 h2 h3
  subst h2 h3;have hd4':=hl4 d hd4;cases ti
  ·have e:uO ⟨mi,false,n,-1,d⟩=[yZ 99 d]:=by simp[uO,uW,tS,qD]
   rw[e]at hA ⊢;rw[Q6 m hA.1 (pX (.inr (.inr (.inl rfl))) (by omega))];simp[nY]
  ·have e:uO ⟨mi,true,n,-1,d⟩=[Lib.itoa n,[42],yZ 99 d]:=by simp[uO,uW,tS,qD]
   rw[e]at hA ⊢;obtain⟨k1,k2⟩:=gT h1.1 (by omega);rw[Q5 m hA.1 k1 hA.2.1 hA.2.2.1 (pX (.inr (.inr (.inl rfl))) (by omega)),k2];simp[nY]
theorem DO{low:List Nat}(hl4:∀d∈low,d<4){P:List PT}:∀(l:List xJ) (p:xJ) (n a:Nat) (m:Bool) (acc:List xE),(∀q∈p::l,pA low q)->wH P a (uO p++pD l++[qR])->l.length<n->lQ P n m (a,false) acc=(acc++nY m p::l.map (fun q=>nY q.minus q),(a+(uO p++pD l).length,false)):=by
 intro l
 induction l with
 | nil =>
   intro p n a m acc zKG hA hn;obtain⟨n,rfl⟩:∃k,n=k+1:=⟨n-1,by simp at hn;omega⟩;have hA':wH P a (uO p++[qR]):=by simpa[pD] using hA
   have hw:=hA'.app.2.1;rw[zC2 (Zp hl4 (zKG p (by simp)) m (fun _=>by decide) hA') hw (fun _=>by decide)];simp[pD]
 | cons q r ih =>
   intro p n a m acc zKG hA hn;obtain⟨n,rfl⟩:∃k,n=k+1:=⟨n-1,by simp at hn;omega⟩;have hq:∀x∈q::r,pA low x:=fun x hx=>zKG x (ms _ hx);have hp:=zKG p (by simp);cases hm:q.minus
   ·have e:uO p++pD (q::r)++[qR]=(uO p++[[43]])++(uO q++pD r++[qR]):=by simp[pD,oB,hm]
    rw[e]at hA;obtain⟨h1,h2⟩:=hA.app;have hs:=h1.app.2.1;rw[yi (Zp hl4 hp m (fun _=>by decide) h1) hs];rw[tl,me,<-cy]at h2;rw[ih q n _ false _ hq h2 (by simp at hn;omega)];refine Prod.ext (by simp[hm]) (Prod.ext ?_ rfl);simp[pD,oB,hm];omega
   ·have e:uO p++pD (q::r)++[qR]=(uO p++[[45]])++(uO q++pD r++[qR]):=by simp[pD,oB,hm]
    rw[e]at hA;obtain⟨h1,h2⟩:=hA.app;have hs:=h1.app.2.1;rw[DT (Zp hl4 hp m (fun _=>by decide) h1) hs];rw[tl,me,<-cy]at h2;rw[ih q n _ true _ hq h2 (by simp at hn;omega)];refine Prod.ext (by simp[hm]) (Prod.ext ?_ rfl);simp[pD,oB,hm];omega
theorem zBY(ps:List xJ):∀(l:List xJ) (k:Nat),0<k->ps.drop k=l->((List.range l.length).flatMap fun j=>mN (k+j) (ps.getD (k+j) sU))=pD l:=by
 intro l
 induction l with
 | nil=>intro k _ _;rfl
 | cons q r ih =>
   intro k hk hd
   have zK4:k<ps.length:=by
    rcases mc k ps.length with h|h
    ·exact h
    ·rw[pf h]at hd;cases hd
   rw[pm zK4]at hd;injection hd with h1 h2
   have hg:ps.getD k sU=q:=by simp[List.getD,zK4,h1]
   rw[pd,List.range_succ_eq_map,bf,List.flatMap_map];have hi:=ih (k+1) (by omega) h2
   have e:((List.range r.length).flatMap fun j=>mN (k+(j+1)) (ps.getD (k+(j+1)) sU))=pD r:=by
    rw[<-hi];congr 1;funext j;rw[show k+(j+1)=k+1+j by omega]
   show mN (k+0) (ps.getD (k+0) sU)++((List.range r.length).flatMap fun j=>mN (k+(j+1)) (ps.getD (k+(j+1)) sU))=_;rw[e,l6,hg];have hs:dK k q=oB q:=by unfold dK oB;rw[tb (by omega)]
   simp[pD,mN,uO,hs]
def aV:List xJ->List xE
 | []=>[]
 | p::r=>nY false p::r.map fun q=>nY q.minus q
theorem CE(p:xJ)(r:List xJ):bK (p::r)=uO p++pD r:=by
 unfold bK pE;rw[pd,List.range_succ_eq_map,bf,List.flatMap_map];have h:=zBY (p::r) r 1 (by decide) rfl
 have e:((List.range r.length).flatMap fun j=>mN (j+1) ((p::r).getD (j+1) sU))=pD r:=by
  rw[<-h];congr 1;funext j;rw[Nat.add_comm]
 show mN 0 p++((List.range r.length).flatMap fun j=>mN (j+1) ((p::r).getD (j+1) sU))=_;rw[e];simp[mN,uO,dK]
theorem yg{low:List Nat}(hl4:∀d∈low,d<4){ps:List xJ}(h:jG low ps):SumR (aV ps) (bK ps):=by
 cases ps with
 | nil=>exact absurd h.1 (by simp)
 | cons p r =>
   intro P a hA hl;rw[CE]at hA hl ⊢;unfold jZ;have h1:=h.2.1
   rw[DO hl4 r p P.length a false [] h.2.2 hA (by
    have:r.length<=(pD r).length:=by
     clear h hA hl h1
     induction r with
     | nil=>simp
     | cons q r ih=>simp only[pD,bf,tl,pd]at ih ⊢;have:(oB q).length=1:=by unfold oB;split <;> rfl
                    omega
    rw[tl]at hl;omega)]
   rfl
end Go.Proofs.YtnbpdffdnphbeabGreatDoor
