import Derived.Test.YtnbpdffdnphbeabGreatDoorFLines
namespace Go.Proofs.YtnbpdffdnphbeabGreatDoor
variable{n:Int}{i:Nat}{M:yC}(u:Nat)
theorem zAU{d:Nat}(h:d<10):so (UInt8.ofNat (48+d))=2:=(show ∀d:Nat,d<10->so (UInt8.ofNat (48+d))=2 by decide) d h
theorem DE{d:Nat}(h:d<10):((UInt8.ofNat (48+d)).toNat:Int)=48+d:=(show ∀d:Nat,d<10->((UInt8.ofNat (48+d)).toNat:Int)=48+d by decide) d h
theorem XH{u:Nat}(h:¬u<10):Lib.decDigits u=Lib.decDigits (u/10)++[UInt8.ofNat (48+u%10)]:=by
 rw[Lib.decDigits,dif_neg h]
theorem zJ6:∀c∈Lib.decDigits u,so c=2:=by
 induction u using Nat.strongRecOn with
 | _ u ih =>
   by_cases h:u<10
   ·rw[Lib.decDigits_one h]
    intro c hc;rw[pr.1 hc];exact zAU h
   ·rw[XH h]
    intro c hc;rcases pu.1 hc with h1|h1
    ·exact ih (u/10) (by omega) c h1
    ·rw[pr.1 h1];exact zAU (by omega)
theorem zAW:Lib.decDigits u≠[]:=fun e=>by
 have h1:=Lib.decDigits_length u;have h2:=Lib.nDigits_pos u;rw[e]at h1;simp at h1;omega
theorem yv(s:Bs)(c:UInt8):∀a:Int,lO a (s++[c])=lO a s*10+((c.toNat:Int)-48):=by
 induction s with
 | nil=>intro a;simp[lO];omega
 | cons x r ih=>intro a;simp only[cf,lO];rw[ih]
theorem zAV:lO 0 (Lib.decDigits u)=u:=by
 induction u using Nat.strongRecOn with
 | _ u ih =>
   by_cases h:u<10
   ·rw[Lib.decDigits_one h]
    simp only[lO];rw[DE h];omega
   ·rw[XH h,yv,ih (u/10) (by omega),DE (by omega)]
    omega
theorem zFB{u:Nat}(h:u<=9999):(Lib.decDigits u).length<=4:=by
 rw[Lib.decDigits_length];by_cases h1:u<10
 ·rw[Lib.nDigits_small h1];decide
 ·rw[Lib.nDigits_big h1]
  by_cases h2:u/10<10
  ·rw[Lib.nDigits_small h2];decide
  ·rw[Lib.nDigits_big h2]
   by_cases h3:u/10/10<10
   ·rw[Lib.nDigits_small h3];decide
   ·rw[Lib.nDigits_big h3,Lib.nDigits_small (by omega)];decide
theorem BN(h:0<=n):Lib.itoa n=Lib.decDigits n.toNat:=by unfold Lib.itoa;rw[tb (by omega)]
theorem nW(h0:0<=n)(h1:n<=9999):Lib.itoa n≠[]/\(∀c∈Lib.itoa n,so c=2)/\(Lib.itoa n).length<=4/\lO 0 (Lib.itoa n)=n:=by
 rw[BN h0];exact⟨zAW _,zJ6 _,zFB (by omega),by rw[zAV];omega⟩
theorem zAX:0<u->(Lib.decDigits u).getD 0 0≠48:=by
 induction u using Nat.strongRecOn with
 | _ u ih =>
   intro h0;by_cases h:u<10
   ·rw[Lib.decDigits_one h]
    exact(show ∀u:Nat,u<10->0<u->([UInt8.ofNat (48+u)]:Bs).getD 0 0≠48 by decide) u h h0
   ·rw[XH h]
    have h1:=ih (u/10) (by omega) (by omega);have h2:=zAW (u/10)
    cases hd:Lib.decDigits (u/10) with
    | nil=>exact absurd hd h2
    | cons a r=>rw[hd]at h1;exact h1
theorem nF(h0:0<=n)(h1:n<=9999):yJ (Lib.itoa n)=3/\kL (Lib.itoa n)=n:=by
 obtain⟨a1,a2,a3,a4⟩:=nW h0 h1;have hh:so ((Lib.itoa n).getD 0 0)=2:=a2 _ (tY 0 (List.length_pos_iff.2 a1))
 have hz:¬(4<(Lib.itoa n).length\/1<(Lib.itoa n).length/\(Lib.itoa n).getD 0 0=48):=fun q=>by
  rcases q with q|⟨q1,q2⟩
  ·omega
  ·rw[BN h0]at q1 q2
   by_cases hp:0<n.toNat
   ·exact zAX _ hp q2
   ·rw[show n.toNat=0 by omega,Lib.decDigits_one (by decide)]at q1
    simp at q1
 have hk:yJ (Lib.itoa n)=3:=by unfold yJ;rw[tb (by rw[hh];decide),tl hh,tb hz]
 exact⟨hk,by unfold kL;rw[tl hk];exact a4⟩
def zIX:List Bs:=[[110,111,116],[40],[41],iS,aB,[111,114],[97,110,100],[45],[43],[42],[114,117,108,101],[58],[61],[119,104,101,110],[59],[110,117,109],[46,46],[102,108,97,103],[111,118,101,114]]
def zIY:List Bs:=[[110,111,116],[40],[41],iS,aB,[111,114],[97,110,100],[45],[43],[42],[114,117,108,101],[58],[61],[119,104,101,110],[110,117,109],[46,46],[102,108,97,103],[111,118,101,114]]
structure wH(P:Bs->Prop):Prop where
 fix:∀x∈zIY,P x
 nam:∀f i,f=110\/f=102\/f=99\/f=114->i<8->P (xG f i)
 num:∀n:Int,0<=n->n<=9999->P (Lib.itoa n)
 mark:∀k,k<6->P (sE k)
structure DO(P:Bs->Prop):Prop where
 fix:∀x∈zIX,P x
 nam:∀f i,f=110\/f=102\/f=99\/f=114->i<8->P (xG f i)
 num:∀n:Int,0<=n->n<=9999->P (Lib.itoa n)
 mark:∀k,k<6->P (sE k)
theorem DO.q{P:Bs->Prop}(h:DO P):wH P:=⟨fun x hx=>h.fix x ((show ∀x∈zIY,x∈zIX by decide) x hx),h.nam,h.num,h.mark⟩
def gP(P:Bs->Prop)(l:List Bs):Prop:=∀x∈l,P x
variable {P:Bs->Prop}
theorem gP.app{a b:List Bs}(ha:gP P a)(hb:gP P b):gP P (a++b):=fun x hx=>by
 rcases pu.1 hx with h|h
 ·exact ha x h
 ·exact hb x h
theorem vW:gP P []:=fun x hx=>by cases hx
theorem yN{a:Bs}{l:List Bs}(ha:P a)(hl:gP P l):gP P (a::l):=fun x hx=>by
 rcases l6.1 hx with rfl|h
 ·exact ha
 ·exact hl x h
theorem bY{p:Prop}[Decidable p]{a b:List Bs}(ha:p->gP P a)(hb:¬p->gP P b):gP P (if p then a else b):=by split <;> rename_i h;exact ha h;exact hb h
theorem Ur{f:Nat->List Bs}{n:Nat}(h:∀i,i<n->gP P (f i)):gP P ((List.range n).flatMap f):=fun x hx=>by
 obtain⟨i,hi,hx'⟩:=bj.1 hx;exact h i (py.1 hi) x hx'
theorem wH.inp(h:wH P)(hi:i<5):P (yD i):=by
 unfold yD;split
 ·exact h.nam _ _ (.inl rfl) (by omega)
 ·exact h.nam _ _ (.inr (.inl rfl)) (by omega)
theorem wH.one(h:wH P){x:Bs}(hx:x∈zIY){p:Prop}[Decidable p]:gP P (if p then [x] else []):=bY (fun _=>yN (h.fix x hx) vW) (fun _=>vW)
theorem zB0(hP:wH P){low:List Nat}(hl4:∀d∈low,d<4){t:zR}(h:xL low t):gP P (uN t):=by
 unfold uN;rcases h with h|⟨h,x1,x2⟩|⟨h,d,hd,hx⟩|⟨h,⟨x1,x2⟩,⟨y1,y2⟩,⟨m1,m2⟩,n1,n2⟩
 ·rw[tl h];exact yN (hP.fix _ (by decide)) vW
 ·rw[tb (by omega),tl h];exact yN (hP.inp (by omega)) vW
 ·rw[tb (by omega),tb (by omega),tl h]
  have:=hl4 d hd;exact yN (hP.fix _ (by decide)) (yN (hP.nam _ _ (.inr (.inr (.inl rfl))) (by omega)) vW)
 ·rw[tb (by omega),tb (by omega),tb (by omega)]
  exact bY (fun _=>yN (hP.inp (by omega)) (yN (hP.mark _ (by omega)) (yN (hP.num _ n1 n2) vW))) (fun _=>yN (hP.inp (by omega)) (yN (hP.mark _ (by omega)) (yN (hP.inp (by omega)) vW)))
theorem zCO(hP:wH P){low:List Nat}(hl4:∀d∈low,d<4){t:zR}(h:xL low t)(lo:Bool):gP P (xB t lo):=by
 unfold xB;exact(((hP.one (by decide)).app (hP.one (by decide))).app (zB0 hP hl4 h)).app (hP.one (by decide))
theorem zEW(hP:wH P){low:List Nat}(hl4:∀d∈low,d<4){ts:List zR}(h:qX low ts)(wh lo:Bool):gP P (bG wh ts lo):=by
 unfold bG jE;refine(((hP.one (by decide)).app (hP.one (by decide))).app (Ur fun i hi=>?_)).app (hP.one (by decide));refine gP.app ?_ (zCO hP hl4 (h.2.2 _ (tY bV hi)) lo);unfold kQ;exact bY (fun _=>vW) (fun _=>bY (fun _=>yN (hP.fix _ (by decide)) vW) (fun _=>yN (hP.fix _ (by decide)) vW))
theorem zCZ(hP:wH P){low:List Nat}(hl4:∀d∈low,d<4){ps:List yU}(h:jG low ps):gP P (bQ ps):=by
 unfold bQ pD;refine Ur fun i hi=>?_;have hp:=h.2.2 _ (tY aD hi);generalize ps.getD i aD=p at *;unfold mQ dV uZ tN qE;refine(((bY (fun _=>vW) (fun _=>bY (fun _=>yN (hP.fix _ (by decide)) vW) (fun _=>yN (hP.fix _ (by decide)) vW))).app (bY (fun hc=>yN ?_ vW) (fun _=>vW))).app (hP.one (by decide))).app (bY (fun hn=>yN ?_ vW) (fun _=>bY (fun hh=>yN ?_ vW) (fun _=>vW)))
 ·rcases hp with ⟨-,h1,-,-⟩|⟨h0,h1,-⟩|⟨-,h1,-⟩|⟨h1,-,-⟩
  ·exact hP.num _ h1.1 h1.2
  ·rcases hc with hc|hc
   ·exact absurd (hc.symm.trans h0) (by simp)
   ·omega
  ·exact hP.num _ h1.1 (by omega)
  ·exact hP.num _ h1.1 (by omega)
 ·rcases hp with ⟨-,-,h1,-⟩|⟨-,h1,-⟩|⟨-,-,h1,-⟩|⟨-,h1,-⟩
  ·omega
  ·exact hP.inp (by omega)
  ·exact hP.inp (by omega)
  ·omega
 ·rcases hp with ⟨-,-,-,h1⟩|⟨-,-,h1⟩|⟨-,-,-,h1⟩|⟨-,-,d,hd,h1⟩
  ·omega
  ·omega
  ·omega
  ·have:=hl4 d hd
   exact hP.nam _ _ (.inr (.inr (.inl rfl))) (by omega)
theorem Ga(hP:DO P)(h:yI M)(lo:Bool):∀l∈vI M lo,gP P l:=fun l hl=>by
 have h8:=h.few;unfold vI at hl;rcases pu.1 hl with hl|hl
 ·rcases pu.1 hl with hl|hl
  ·obtain⟨i,hi,rfl⟩:=p9.1 hl
   have hi5:=py.1 hi;unfold gE;split
   ·rename_i h3
    have:=h.nums i h3;exact yN (hP.fix _ (by decide)) (yN (hP.q.inp hi5) (yN (hP.num _ (by omega) (by omega)) (yN (hP.fix _ (by decide)) (yN (hP.num _ (by omega) (by omega)) (yN (hP.fix _ (by decide)) vW)))))
   ·exact yN (hP.fix _ (by decide)) (yN (hP.q.inp hi5) (yN (hP.fix _ (by decide)) vW))
  ·obtain⟨i,hi,rfl⟩:=p9.1 hl
   have hr:=h.rules _ (tY oW (py.1 hi));have hi8:=py.1 hi;generalize M.rules.getD i oW=r at *;have hh:=hr.head;have hl4:∀d∈xC M.heads r.head,d<4:=fun d hd=>by have:=iN hd;omega
   have q1:gP P [[114,117,108,101],xG 114 i,[58],xG 99 r.head,[61]]:=yN (hP.fix _ (by decide)) (yN (hP.nam _ _ (.inr (.inr (.inr rfl))) (by omega)) (yN (hP.fix _ (by decide)) (yN (hP.nam _ _ (.inr (.inr (.inl rfl))) (by omega)) (yN (hP.fix _ (by decide)) vW))));unfold cM;exact(((q1.app (zCZ hP.q hl4 hr.parts)).app (yN (hP.fix _ (by decide)) vW)).app (zEW hP.q hl4 hr.tests _ _)).app (yN (hP.fix _ (by decide)) vW)
 ·obtain⟨i,hi,hl⟩:=bj.1 hl
  have hi8:=py.1 hi;unfold tD at hl;obtain⟨j,hj,hl⟩:=bj.1 hl;have hj8:=py.1 hj;split at hl
  ·rw[pr.1 hl]
   exact yN (hP.fix _ (by decide)) (yN (hP.nam _ _ (.inr (.inr (.inr rfl))) (by omega)) (yN (hP.nam _ _ (.inr (.inr (.inr rfl))) (by omega)) (yN (hP.fix _ (by decide)) vW)))
  ·cases hl
theorem zIW{f:UInt8}(hf:f=110\/f=102\/f=99\/f=114)(hi:i<8):∀x∈xG f i,so x=1:=by
 have h:i=0\/i=1\/i=2\/i=3\/i=4\/i=5\/i=6\/i=7:=by omega
 rcases hf with rfl|rfl|rfl|rfl <;> rcases h with rfl|rfl|rfl|rfl|rfl|rfl|rfl|rfl <;> decide
theorem zC9:DO Wd:=by
 have run:∀x:Bs,x≠[]->(∀c∈x,so c=1)->Wd x:=fun x h1 h2=>wX 1 (.inl rfl) h1 h2;have m1:∀m:UInt8,so m=0->lG kW [m,32]=false->lG kW [m,59]=false->lG kW [m,10]=false->Wd [m]:=fun m a b c d=>Jx a b c d;refine⟨fun x hx=>?_,fun f i hf hi=>run _ (by unfold xG;simp) (zIW hf hi),fun n h0 h1=>wX 2 (.inr rfl) (nW h0 h1).1 (nW h0 h1).2.1,fun k hk=>?_⟩
 ·simp only[zIX,l6,ff,or_false]at hx
  rcases hx with rfl|rfl|rfl|rfl|rfl|rfl|rfl|rfl|rfl|rfl|rfl|rfl|rfl|rfl|rfl|rfl|rfl|rfl|rfl
  all_goals first
   | exact run _ (by decide) (by decide)
   | exact m1 _ (by decide) (by decide) (by decide) (by decide)
   | exact K6 (by decide) (by decide)
 ·have h:k=0\/k=1\/k=2\/k=3\/k=4\/k=5:=by omega
  rcases h with rfl|rfl|rfl|rfl|rfl|rfl
  all_goals first
   | exact m1 _ (by decide) (by decide) (by decide) (by decide)
   | exact K6 (by decide) (by decide)
theorem j3(h:yI M)(lo:Bool):∀l∈vI M lo,∀x∈l,Wd x:=Ga zC9 h lo
theorem zCR(h:yI M)(lo:Bool):tw (wU (vI M lo))=(vI M lo).flatten:=yw _ (j3 h lo)
theorem FC{r a b:Bs}(hr:yJ r=2)(ha:yJ a=3)(hb:yJ b=3):DP ⟨1,r,kL a,kL b,[],[],[],0,0,0,[]⟩ [[110,117,109],r,a,[46,46],b,cW]:=by
 refine⟨fun w r h=>by cases h;decide,by simp,fun P x h _=>?_⟩;obtain⟨h0,h1,h2,h3,h4,h5,_⟩:=h;unfold uA;simp only[bC h0 (by decide)];unfold cR;simp only[mY h1 hr,oM h2 ha,fD h3 (by decide),oM h4 hb,show ([59]:Bs)=cW from rfl,fD h5 (by decide)];rfl
theorem Bi{r:Bs}(hr:yJ r=2):DP ⟨2,r,0,0,[],[],[],0,0,0,[]⟩ [[102,108,97,103],r,cW]:=by
 refine⟨fun w r h=>by cases h;decide,by simp,fun P x h _=>?_⟩;obtain⟨h0,h1,h2,_⟩:=h;unfold uA;simp only[kB h0 [110,117,109] (fun _=>by decide),bC h0 (by decide)];unfold mX;simp only[mY h1 hr,show ([59]:Bs)=cW from rfl,fD h2 (by decide)];rfl
def uO(p:yU):List Bs:=uZ p++tN p++qE p
def oF(p:yU):List Bs:=if p.minus=true then [[45]] else [[43]]
def pC(l:List yU):List Bs:=l.flatMap fun q=>oF q++uO q
def bH(m:Bool)(p:yU):xE:=if p.times=true then ⟨m,true,p.n,if 0<=p.num then yD p.num.toNat else xG 99 p.head.toNat⟩ else if 0<=p.num then ⟨m,false,0,yD p.num.toNat⟩ else if 0<=p.head then ⟨m,false,0,xG 99 p.head.toNat⟩ else ⟨m,false,p.n,[]⟩
theorem pW{f:UInt8}(hf:f=110\/f=102\/f=99\/f=114)(hi:i<8):yJ (xG f i)=2:=by
 have h:i=0\/i=1\/i=2\/i=3\/i=4\/i=5\/i=6\/i=7:=by omega
 rcases hf with rfl|rfl|rfl|rfl <;> rcases h with rfl|rfl|rfl|rfl|rfl|rfl|rfl|rfl <;> decide
theorem lE(hi:i<5):yJ (yD i)=2:=by
 unfold yD;split
 ·exact pW (.inl rfl) (by omega)
 ·exact pW (.inr (.inl rfl)) (by omega)
theorem Z5{low:List Nat}(hl4:∀d∈low,d<4){p:yU}(h:jR low p){P:List PT}{a:Nat}{v:Bs}(m:Bool)(hv:yJ v=4->v≠[42])(hA:wT P a (uO p++[v])):qC P m (a,false)=(bH m p,(a+(uO p).length,false)):=by
 obtain⟨mi,ti,n,nu,hd⟩:=p;rcases h with ⟨h0,h1,h2,h3⟩|⟨h0,h1,h2⟩|⟨h0,h1,h2,h3⟩|⟨h1,h2,d,hd4,h3⟩
 ·simp only at h0 h1 h2 h3
  subst h0 h2 h3;have e:uO ⟨mi,false,n,-1,-1⟩=[Lib.itoa n]:=by simp[uO,uZ,tN,qE]
  rw[e]at hA ⊢;obtain⟨k1,k2⟩:=nF h1.1 h1.2;rw[uu m hA.1 k1 hA.2.1 hv,k2];rfl
 ·simp only at h0 h1 h2
  subst h0 h2;have e:uO ⟨mi,false,n,nu,-1⟩=[yD nu.toNat]:=by simp[uO,uZ,tN,qE,h1.1]
  rw[e]at hA ⊢;rw[QF m hA.1 (lE (by omega))];simp[bH,h1.1]
 ·simp only at h0 h1 h2 h3
  subst h0 h3;have e:uO ⟨mi,true,n,nu,-1⟩=[Lib.itoa n,[42],yD nu.toNat]:=by simp[uO,uZ,tN,qE,h2.1]
  rw[e]at hA ⊢;obtain⟨k1,k2⟩:=nF h1.1 (by omega);rw[QE m hA.1 k1 hA.2.1 hA.2.2.1 (lE (by omega)),k2];simp[bH,h2.1]
 ·simp only at h1 h2 h3
  subst h2 h3;have hd4':=hl4 d hd4;cases ti
  ·have e:uO ⟨mi,false,n,-1,d⟩=[xG 99 d]:=by simp[uO,uZ,tN,qE]
   rw[e]at hA ⊢;rw[QF m hA.1 (pW (.inr (.inr (.inl rfl))) (by omega))];simp[bH]
  ·have e:uO ⟨mi,true,n,-1,d⟩=[Lib.itoa n,[42],xG 99 d]:=by simp[uO,uZ,tN,qE]
   rw[e]at hA ⊢;obtain⟨k1,k2⟩:=nF h1.1 (by omega);rw[QE m hA.1 k1 hA.2.1 hA.2.2.1 (pW (.inr (.inr (.inl rfl))) (by omega)),k2];simp[bH]
theorem Fh{low:List Nat}(hl4:∀d∈low,d<4){P:List PT}:∀(l:List yU) (p:yU) (n a:Nat) (m:Bool) (acc:List xE),(∀q∈p::l,jR low q)->wT P a (uO p++pC l++[qU])->l.length<n->lS P n m (a,false) acc=(acc++bH m p::l.map (fun q=>bH q.minus q),(a+(uO p++pC l).length,false)):=by
 intro l
 induction l with
 | nil =>
   intro p n a m acc zLC hA hn;obtain⟨n,rfl⟩:∃k,n=k+1:=⟨n-1,by simp at hn;omega⟩;have hA':wT P a (uO p++[qU]):=by simpa[pC] using hA
   have hw:=hA'.app.2.1;rw[zCX (Z5 hl4 (zLC p (by simp)) m (fun _=>by decide) hA') hw (fun _=>by decide)];simp[pC]
 | cons q r ih =>
   intro p n a m acc zLC hA hn;obtain⟨n,rfl⟩:∃k,n=k+1:=⟨n-1,by simp at hn;omega⟩;have hq:∀x∈q::r,jR low x:=fun x hx=>zLC x (mu _ hx);have hp:=zLC p (by simp);cases hm:q.minus
   ·have e:uO p++pC (q::r)++[qU]=(uO p++[[43]])++(uO q++pC r++[qU]):=by simp[pC,oF,hm]
    rw[e]at hA;obtain⟨h1,h2⟩:=hA.app;have hs:=h1.app.2.1;rw[vf (Z5 hl4 hp m (fun _=>by decide) h1) hs];rw[tm,mh,<-dc]at h2;rw[ih q n _ false _ hq h2 (by simp at hn;omega)];refine Prod.ext (by simp[hm]) (Prod.ext ?_ rfl);simp[pC,oF,hm];omega
   ·have e:uO p++pC (q::r)++[qU]=(uO p++[[45]])++(uO q++pC r++[qU]):=by simp[pC,oF,hm]
    rw[e]at hA;obtain⟨h1,h2⟩:=hA.app;have hs:=h1.app.2.1;rw[Fp (Z5 hl4 hp m (fun _=>by decide) h1) hs];rw[tm,mh,<-dc]at h2;rw[ih q n _ true _ hq h2 (by simp at hn;omega)];refine Prod.ext (by simp[hm]) (Prod.ext ?_ rfl);simp[pC,oF,hm];omega
theorem zCU(ps:List yU):∀(l:List yU) (k:Nat),0<k->ps.drop k=l->((List.range l.length).flatMap fun j=>mQ (k+j) (ps.getD (k+j) aD))=pC l:=by
 intro l
 induction l with
 | nil=>intro k _ _;rfl
 | cons q r ih =>
   intro k hk hd
   have zKZ:k<ps.length:=by
    rcases md k ps.length with h|h
    ·exact h
    ·rw[pm h]at hd;cases hd
   rw[po zKZ]at hd;injection hd with h1 h2
   have hg:ps.getD k aD=q:=by simp[List.getD,zKZ,h1]
   rw[pf,List.range_succ_eq_map,bh,List.flatMap_map];have hi:=ih (k+1) (by omega) h2
   have e:((List.range r.length).flatMap fun j=>mQ (k+(j+1)) (ps.getD (k+(j+1)) aD))=pC r:=by
    rw[<-hi];congr 1;funext j;rw[show k+(j+1)=k+1+j by omega]
   show mQ (k+0) (ps.getD (k+0) aD)++((List.range r.length).flatMap fun j=>mQ (k+(j+1)) (ps.getD (k+(j+1)) aD))=_;rw[e,l9,hg];have hs:dV k q=oF q:=by unfold dV oF;rw[tb (by omega)]
   simp[pC,mQ,uO,hs]
def rB:List yU->List xE
 | []=>[]
 | p::r=>bH false p::r.map fun q=>bH q.minus q
theorem CS(p:yU)(r:List yU):bQ (p::r)=uO p++pC r:=by
 unfold bQ pD;rw[pf,List.range_succ_eq_map,bh,List.flatMap_map];have h:=zCU (p::r) r 1 (by decide) rfl
 have e:((List.range r.length).flatMap fun j=>mQ (j+1) ((p::r).getD (j+1) aD))=pC r:=by
  rw[<-h];congr 1;funext j;rw[Nat.add_comm]
 show mQ 0 p++((List.range r.length).flatMap fun j=>mQ (j+1) ((p::r).getD (j+1) aD))=_;rw[e];simp[mQ,uO,dV]
theorem ve{low:List Nat}(hl4:∀d∈low,d<4){ps:List yU}(h:jG low ps):SumR (rB ps) (bQ ps):=by
 cases ps with
 | nil=>exact absurd h.1 (by simp)
 | cons p r =>
   intro P a hA hl;rw[CS]at hA hl ⊢;unfold jY;have h1:=h.2.1
   rw[Fh hl4 r p P.length a false [] h.2.2 hA (by
    have:r.length<=(pC r).length:=by
     clear h hA hl h1
     induction r with
     | nil=>simp
     | cons q r ih=>simp only[pC,bh,tm,pf]at ih ⊢;have:(oF q).length=1:=by unfold oF;split <;> rfl
                    omega
    rw[tm]at hl;omega)]
   rfl
end Go.Proofs.YtnbpdffdnphbeabGreatDoor
