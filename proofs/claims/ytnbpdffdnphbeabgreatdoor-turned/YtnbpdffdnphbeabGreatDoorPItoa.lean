import Derived.Test.YtnbpdffdnphbeabGreatDoorFLines
namespace Go.Proofs.YtnbpdffdnphbeabGreatDoor
variable{i:Nat}(u:Nat)
theorem zBP{d:Nat}(h:d<10):so (UInt8.ofNat (48+d))=2:=(show ∀d:Nat,d<10->so (UInt8.ofNat (48+d))=2 by decide) d h
theorem Fd{d:Nat}(h:d<10):((UInt8.ofNat (48+d)).toNat:Int)=48+d:=(show ∀d:Nat,d<10->((UInt8.ofNat (48+d)).toNat:Int)=48+d by decide) d h
theorem Qe{u:Nat}(h:¬u<10):Lib.decDigits u=Lib.decDigits (u/10)++[UInt8.ofNat (48+u%10)]:=by
 rw[Lib.decDigits,dif_neg h]
theorem zJU:∀c∈Lib.decDigits u,so c=2:=by
 induction u using Nat.strongRecOn with
 | _ u ih =>
   by_cases h:u<10
   ·rw[Lib.decDigits_one h]
    intro c hc;rw[pu.1 hc];exact zBP h
   ·rw[Qe h]
    intro c hc;rcases pt.1 hc with h1|h1
    ·exact ih (u/10) (by omega) c h1
    ·rw[pu.1 h1];exact zBP (by omega)
theorem zBR:Lib.decDigits u≠[]:=fun e=>by
 have h1:=Lib.decDigits_length u;have h2:=Lib.nDigits_pos u;rw[e]at h1;simp at h1;omega
theorem uh(s:Bs)(c:UInt8):∀a:Int,lP a (s++[c])=lP a s*10+((c.toNat:Int)-48):=by
 induction s with
 | nil=>intro a;simp[lP];omega
 | cons x r ih=>intro a;simp only[cd,lP];rw[ih]
theorem zBQ:lP 0 (Lib.decDigits u)=u:=by
 induction u using Nat.strongRecOn with
 | _ u ih =>
   by_cases h:u<10
   ·rw[Lib.decDigits_one h]
    simp only[lP];rw[Fd h];omega
   ·rw[Qe h,uh,ih (u/10) (by omega),Fd (by omega)]
    omega
theorem zG0{u:Nat}(h:u<=9999):(Lib.decDigits u).length<=4:=by
 rw[Lib.decDigits_length];by_cases h1:u<10
 ·rw[Lib.nDigits_small h1];decide
 ·rw[Lib.nDigits_big h1]
  by_cases h2:u/10<10
  ·rw[Lib.nDigits_small h2];decide
  ·rw[Lib.nDigits_big h2]
   by_cases h3:u/10/10<10
   ·rw[Lib.nDigits_small h3];decide
   ·rw[Lib.nDigits_big h3,Lib.nDigits_small (by omega)];decide
theorem Cj{n:Int}(h:0<=n):Lib.itoa n=Lib.decDigits n.toNat:=by unfold Lib.itoa;rw[tb (by omega)]
theorem oJ{n:Int}(h0:0<=n)(h1:n<=9999):Lib.itoa n≠[]/\(∀c∈Lib.itoa n,so c=2)/\(Lib.itoa n).length<=4/\lP 0 (Lib.itoa n)=n:=by
 rw[Cj h0];exact⟨zBR _,zJU _,zG0 (by omega),by rw[zBQ];omega⟩
theorem zBS:0<u->(Lib.decDigits u).getD 0 0≠48:=by
 induction u using Nat.strongRecOn with
 | _ u ih =>
   intro h0;by_cases h:u<10
   ·rw[Lib.decDigits_one h]
    exact(show ∀u:Nat,u<10->0<u->([UInt8.ofNat (48+u)]:Bs).getD 0 0≠48 by decide) u h h0
   ·rw[Qe h]
    have h1:=ih (u/10) (by omega) (by omega);have h2:=zBR (u/10)
    cases hd:Lib.decDigits (u/10) with
    | nil=>exact absurd hd h2
    | cons a r=>rw[hd]at h1;exact h1
theorem nO{n:Int}(h0:0<=n)(h1:n<=9999):yI (Lib.itoa n)=3/\kQ (Lib.itoa n)=n:=by
 obtain⟨a1,a2,a3,a4⟩:=oJ h0 h1;have hh:so ((Lib.itoa n).getD 0 0)=2:=a2 _ (bG 0 (List.length_pos_iff.2 a1))
 have hz:¬(4<(Lib.itoa n).length\/1<(Lib.itoa n).length/\(Lib.itoa n).getD 0 0=48):=fun q=>by
  rcases q with q|⟨q1,q2⟩
  ·omega
  ·rw[Cj h0]at q1 q2
   by_cases hp:0<n.toNat
   ·exact zBS _ hp q2
   ·rw[show n.toNat=0 by omega,Lib.decDigits_one (by decide)]at q1
    simp at q1
 have hk:yI (Lib.itoa n)=3:=by unfold yI;rw[tb (by rw[hh];decide),tl hh,tb hz]
 exact⟨hk,by unfold kQ;rw[tl hk];exact a4⟩
def zJO:List Bs:=[[110,111,116],[40],[41],wU,aU,[111,114],[97,110,100],[45],[43],[42],[114,117,108,101],[58],[61],[119,104,101,110],[59],[110,117,109],[46,46],[102,108,97,103],[111,118,101,114]]
def zJP:List Bs:=[[110,111,116],[40],[41],wU,aU,[111,114],[97,110,100],[45],[43],[42],[114,117,108,101],[58],[61],[119,104,101,110],[110,117,109],[46,46],[102,108,97,103],[111,118,101,114]]
structure Zo(P:Bs->Prop):Prop where
 fix:∀x∈zJP,P x
 nam:∀f i,f=110\/f=102\/f=99\/f=114->i<8->P (xM f i)
 num:∀n:Int,0<=n->n<=9999->P (Lib.itoa n)
 mark:∀k,k<6->P (sX k)
structure Fq(P:Bs->Prop):Prop where
 fix:∀x∈zJO,P x
 nam:∀f i,f=110\/f=102\/f=99\/f=114->i<8->P (xM f i)
 num:∀n:Int,0<=n->n<=9999->P (Lib.itoa n)
 mark:∀k,k<6->P (sX k)
theorem Fq.q{P:Bs->Prop}(h:Fq P):Zo P:=⟨fun x hx=>h.fix x ((show ∀x∈zJP,x∈zJO by decide) x hx),h.nam,h.num,h.mark⟩
def gT(P:Bs->Prop)(l:List Bs):Prop:=∀x∈l,P x
variable {P:Bs->Prop}
theorem gT.app{a b:List Bs}(ha:gT P a)(hb:gT P b):gT P (a++b):=fun x hx=>by
 rcases pt.1 hx with h|h
 ·exact ha x h
 ·exact hb x h
theorem vZ:gT P []:=fun x hx=>by cases hx
theorem yN{a:Bs}{l:List Bs}(ha:P a)(hl:gT P l):gT P (a::l):=fun x hx=>by
 rcases l6.1 hx with rfl|h
 ·exact ha
 ·exact hl x h
theorem bV{p:Prop}[Decidable p]{a b:List Bs}(ha:p->gT P a)(hb:¬p->gT P b):gT P (if p then a else b):=by split <;> rename_i h;exact ha h;exact hb h
theorem UB{f:Nat->List Bs}{n:Nat}(h:∀i,i<n->gT P (f i)):gT P ((List.range n).flatMap f):=fun x hx=>by
 obtain⟨i,hi,hx'⟩:=bj.1 hx;exact h i (pm.1 hi) x hx'
theorem Zo.inp(h:Zo P)(hi:i<5):P (yD i):=by
 unfold yD;split
 ·exact h.nam _ _ (.inl rfl) (by omega)
 ·exact h.nam _ _ (.inr (.inl rfl)) (by omega)
theorem Zo.one(h:Zo P){x:Bs}(hx:x∈zJP){p:Prop}[Decidable p]:gT P (if p then [x] else []):=bV (fun _=>yN (h.fix x hx) vZ) (fun _=>vZ)
theorem zBV(hP:Zo P){low:List Nat}(hl4:∀d∈low,d<4){t:yC}(h:vM low t):gT P (uR t):=by
 unfold uR;rcases h with h|⟨h,x1,x2⟩|⟨h,d,hd,hx⟩|⟨h,⟨x1,x2⟩,⟨y1,y2⟩,⟨m1,m2⟩,n1,n2⟩
 ·rw[tl h];exact yN (hP.fix _ (by decide)) vZ
 ·rw[tb (by omega),tl h];exact yN (hP.inp (by omega)) vZ
 ·rw[tb (by omega),tb (by omega),tl h]
  have:=hl4 d hd;exact yN (hP.fix _ (by decide)) (yN (hP.nam _ _ (.inr (.inr (.inl rfl))) (by omega)) vZ)
 ·rw[tb (by omega),tb (by omega),tb (by omega)]
  exact bV (fun _=>yN (hP.inp (by omega)) (yN (hP.mark _ (by omega)) (yN (hP.num _ n1 n2) vZ))) (fun _=>yN (hP.inp (by omega)) (yN (hP.mark _ (by omega)) (yN (hP.inp (by omega)) vZ)))
theorem zDO(hP:Zo P){low:List Nat}(hl4:∀d∈low,d<4){t:yC}(h:vM low t)(lo:Bool):gT P (xC t lo):=by
 unfold xC;exact(((hP.one (by decide)).app (hP.one (by decide))).app (zBV hP hl4 h)).app (hP.one (by decide))
theorem zFK(hP:Zo P){low:List Nat}(hl4:∀d∈low,d<4){ts:List yC}(h:tM low ts)(wh lo:Bool):gT P (bF wh ts lo):=by
 unfold bF jK;refine(((hP.one (by decide)).app (hP.one (by decide))).app (UB fun i hi=>?_)).app (hP.one (by decide));refine gT.app ?_ (zDO hP hl4 (h.2.2 _ (bG eW hi)) lo);unfold kU;exact bV (fun _=>vZ) (fun _=>bV (fun _=>yN (hP.fix _ (by decide)) vZ) (fun _=>yN (hP.fix _ (by decide)) vZ))
theorem zDY(hP:Zo P){low:List Nat}(hl4:∀d∈low,d<4){ps:List yX}(h:jN low ps):gT P (bO ps):=by
 unfold bO pI;refine UB fun i hi=>?_;have hp:=h.2.2 _ (bG Q9 hi);generalize ps.getD i Q9=p at *;unfold mT dV uY tW qF;refine(((bV (fun _=>vZ) (fun _=>bV (fun _=>yN (hP.fix _ (by decide)) vZ) (fun _=>yN (hP.fix _ (by decide)) vZ))).app (bV (fun hc=>yN ?_ vZ) (fun _=>vZ))).app (hP.one (by decide))).app (bV (fun hn=>yN ?_ vZ) (fun _=>bV (fun hh=>yN ?_ vZ) (fun _=>vZ)))
 ·rcases hp with ⟨-,h1,-,-⟩|⟨h0,h1,-⟩|⟨-,h1,-⟩|⟨h1,-,-⟩
  ·exact hP.num _ h1.1 h1.2
  ·rcases hc with hc|hc
   ·exact absurd (hc.symm.trans h0) (by simp)
   ·omega
  ·exact hP.num _ h1.1 (by omega)
  ·exact hP.num _ h1.1 (by omega)
 ·rcases hp with ⟨-,-,h1,-⟩|⟨-,h1,-⟩|⟨-,-,h1,-⟩|⟨-,h1,-⟩
  ·omega
  ·exact hP.inp (by omega)
  ·exact hP.inp (by omega)
  ·omega
 ·rcases hp with ⟨-,-,-,h1⟩|⟨-,-,h1⟩|⟨-,-,-,h1⟩|⟨-,-,d,hd,h1⟩
  ·omega
  ·omega
  ·omega
  ·have:=hl4 d hd
   exact hP.nam _ _ (.inr (.inr (.inl rfl))) (by omega)
theorem GD(hP:Fq P){M:yB}(h:yA M)(lo:Bool):∀l∈yJ M lo,gT P l:=fun l hl=>by
 have h8:=h.few;unfold yJ at hl;rcases pt.1 hl with hl|hl
 ·rcases pt.1 hl with hl|hl
  ·obtain⟨i,hi,rfl⟩:=p7.1 hl
   have hi5:=pm.1 hi;unfold gI;split
   ·rename_i h3
    have:=h.nums i h3;exact yN (hP.fix _ (by decide)) (yN (hP.q.inp hi5) (yN (hP.num _ (by omega) (by omega)) (yN (hP.fix _ (by decide)) (yN (hP.num _ (by omega) (by omega)) (yN (hP.fix _ (by decide)) vZ)))))
   ·exact yN (hP.fix _ (by decide)) (yN (hP.q.inp hi5) (yN (hP.fix _ (by decide)) vZ))
  ·obtain⟨i,hi,rfl⟩:=p7.1 hl
   have hr:=h.rules _ (bG aV (pm.1 hi));have hi8:=pm.1 hi;generalize M.rules.getD i aV=r at *;have hh:=hr.head;have hl4:∀d∈xF M.heads r.head,d<4:=fun d hd=>by have:=X7 hd;omega
   have q1:gT P [[114,117,108,101],xM 114 i,[58],xM 99 r.head,[61]]:=yN (hP.fix _ (by decide)) (yN (hP.nam _ _ (.inr (.inr (.inr rfl))) (by omega)) (yN (hP.fix _ (by decide)) (yN (hP.nam _ _ (.inr (.inr (.inl rfl))) (by omega)) (yN (hP.fix _ (by decide)) vZ))));unfold cK;exact(((q1.app (zDY hP.q hl4 hr.parts)).app (yN (hP.fix _ (by decide)) vZ)).app (zFK hP.q hl4 hr.tests _ _)).app (yN (hP.fix _ (by decide)) vZ)
 ·obtain⟨i,hi,hl⟩:=bj.1 hl
  have hi8:=pm.1 hi;unfold tL at hl;obtain⟨j,hj,hl⟩:=bj.1 hl;have hj8:=pm.1 hj;split at hl
  ·rw[pu.1 hl]
   exact yN (hP.fix _ (by decide)) (yN (hP.nam _ _ (.inr (.inr (.inr rfl))) (by omega)) (yN (hP.nam _ _ (.inr (.inr (.inr rfl))) (by omega)) (yN (hP.fix _ (by decide)) vZ)))
  ·cases hl
theorem zJN{f:UInt8}(hf:f=110\/f=102\/f=99\/f=114)(hi:i<8):∀x∈xM f i,so x=1:=by
 have h:i=0\/i=1\/i=2\/i=3\/i=4\/i=5\/i=6\/i=7:=by omega
 rcases hf with rfl|rfl|rfl|rfl <;> rcases h with rfl|rfl|rfl|rfl|rfl|rfl|rfl|rfl <;> decide
theorem zD8:Fq Wd:=by
 have run:∀x:Bs,x≠[]->(∀c∈x,so c=1)->Wd x:=fun x h1 h2=>Zv 1 (.inl rfl) h1 h2;have m1:∀m:UInt8,so m=0->lJ jA [m,32]=false->lJ jA [m,59]=false->lJ jA [m,10]=false->Wd [m]:=fun m a b c d=>JM a b c d;refine⟨fun x hx=>?_,fun f i hf hi=>run _ (by unfold xM;simp) (zJN hf hi),fun n h0 h1=>Zv 2 (.inr rfl) (oJ h0 h1).1 (oJ h0 h1).2.1,fun k hk=>?_⟩
 ·simp only[zJO,l6,fd,or_false]at hx
  rcases hx with rfl|rfl|rfl|rfl|rfl|rfl|rfl|rfl|rfl|rfl|rfl|rfl|rfl|rfl|rfl|rfl|rfl|rfl|rfl
  all_goals first
   | exact run _ (by decide) (by decide)
   | exact m1 _ (by decide) (by decide) (by decide) (by decide)
   | exact KW (by decide) (by decide)
 ·have h:k=0\/k=1\/k=2\/k=3\/k=4\/k=5:=by omega
  rcases h with rfl|rfl|rfl|rfl|rfl|rfl
  all_goals first
   | exact m1 _ (by decide) (by decide) (by decide) (by decide)
   | exact KW (by decide) (by decide)
theorem zA3{M:yB}(h:yA M)(lo:Bool):∀l∈yJ M lo,∀x∈l,Wd x:=GD zD8 h lo
theorem Gm{r a b:Bs}(hr:yI r=2)(ha:yI a=3)(hb:yI b=3):Fs ⟨1,r,kQ a,kQ b,[],[],[],0,0,0,[]⟩ [[110,117,109],r,a,[46,46],b,cU]:=by
 refine⟨fun w r h=>by cases h;decide,by simp,fun P x h _=>?_⟩;obtain⟨h0,h1,h2,h3,h4,h5,_⟩:=h;unfold uC;simp only[bA h0 (by decide)];unfold cP;simp only[lB h1 hr,oZ h2 ha,fD h3 (by decide),oZ h4 hb,show ([59]:Bs)=cU from rfl,fD h5 (by decide)];rfl
theorem B6{r:Bs}(hr:yI r=2):Fs ⟨2,r,0,0,[],[],[],0,0,0,[]⟩ [[102,108,97,103],r,cU]:=by
 refine⟨fun w r h=>by cases h;decide,by simp,fun P x h _=>?_⟩;obtain⟨h0,h1,h2,_⟩:=h;unfold uC;simp only[kG h0 [110,117,109] (fun _=>by decide),bA h0 (by decide)];unfold mZ;simp only[lB h1 hr,show ([59]:Bs)=cU from rfl,fD h2 (by decide)];rfl
def uS(p:yX):List Bs:=uY p++tW p++qF p
def oS(p:yX):List Bs:=if p.minus=true then [[45]] else [[43]]
def pG(l:List yX):List Bs:=l.flatMap fun q=>oS q++uS q
def bH(m:Bool)(p:yX):xI:=if p.times=true then ⟨m,true,p.n,if 0<=p.num then yD p.num.toNat else xM 99 p.head.toNat⟩ else if 0<=p.num then ⟨m,false,0,yD p.num.toNat⟩ else if 0<=p.head then ⟨m,false,0,xM 99 p.head.toNat⟩ else ⟨m,false,p.n,[]⟩
theorem mB{f:UInt8}(hf:f=110\/f=102\/f=99\/f=114)(hi:i<8):yI (xM f i)=2:=by
 have h:i=0\/i=1\/i=2\/i=3\/i=4\/i=5\/i=6\/i=7:=by omega
 rcases hf with rfl|rfl|rfl|rfl <;> rcases h with rfl|rfl|rfl|rfl|rfl|rfl|rfl|rfl <;> decide
theorem lG(hi:i<5):yI (yD i)=2:=by
 unfold yD;split
 ·exact mB (.inl rfl) (by omega)
 ·exact mB (.inr (.inl rfl)) (by omega)
theorem ZQ{low:List Nat}(hl4:∀d∈low,d<4){p:yX}(h:tB low p){P:List PT}{a:Nat}{v:Bs}(m:Bool)(hv:yI v=4->v≠[42])(hA:Zu P a (uS p++[v])):qD P m (a,false)=(bH m p,(a+(uS p).length,false)):=by
 obtain⟨mi,ti,n,nu,hd⟩:=p;rcases h with ⟨h0,h1,h2,h3⟩|⟨h0,h1,h2⟩|⟨h0,h1,h2,h3⟩|⟨h1,h2,d,hd4,h3⟩
 ·simp only at h0 h1 h2 h3
  subst h0 h2 h3;have e:uS ⟨mi,false,n,-1,-1⟩=[Lib.itoa n]:=by simp[uS,uY,tW,qF]
  rw[e]at hA ⊢;obtain⟨k1,k2⟩:=nO h1.1 h1.2;rw[j6 m hA.1 k1 hA.2.1 hv,k2];rfl
 ·simp only at h0 h1 h2
  subst h0 h2;have e:uS ⟨mi,false,n,nu,-1⟩=[yD nu.toNat]:=by simp[uS,uY,tW,qF,h1.1]
  rw[e]at hA ⊢;rw[Je m hA.1 (lG (by omega))];simp[bH,h1.1]
 ·simp only at h0 h1 h2 h3
  subst h0 h3;have e:uS ⟨mi,true,n,nu,-1⟩=[Lib.itoa n,[42],yD nu.toNat]:=by simp[uS,uY,tW,qF,h2.1]
  rw[e]at hA ⊢;obtain⟨k1,k2⟩:=nO h1.1 (by omega);rw[Jd m hA.1 k1 hA.2.1 hA.2.2.1 (lG (by omega)),k2];simp[bH,h2.1]
 ·simp only at h1 h2 h3
  subst h2 h3;have hd4':=hl4 d hd4;cases ti
  ·have e:uS ⟨mi,false,n,-1,d⟩=[xM 99 d]:=by simp[uS,uY,tW,qF]
   rw[e]at hA ⊢;rw[Je m hA.1 (mB (.inr (.inr (.inl rfl))) (by omega))];simp[bH]
  ·have e:uS ⟨mi,true,n,-1,d⟩=[Lib.itoa n,[42],xM 99 d]:=by simp[uS,uY,tW,qF]
   rw[e]at hA ⊢;obtain⟨k1,k2⟩:=nO h1.1 (by omega);rw[Jd m hA.1 k1 hA.2.1 hA.2.2.1 (mB (.inr (.inr (.inl rfl))) (by omega)),k2];simp[bH]
theorem FI{low:List Nat}(hl4:∀d∈low,d<4){P:List PT}:∀(l:List yX) (p:yX) (n a:Nat) (m:Bool) (acc:List xI),(∀q∈p::l,tB low q)->Zu P a (uS p++pG l++[qX])->l.length<n->lS P n m (a,false) acc=(acc++bH m p::l.map (fun q=>bH q.minus q),(a+(uS p++pG l).length,false)):=by
 intro l
 induction l with
 | nil =>
   intro p n a m acc zLW hA hn;obtain⟨n,rfl⟩:∃k,n=k+1:=⟨n-1,by simp at hn;omega⟩;have hA':Zu P a (uS p++[qX]):=by simpa[pG] using hA
   have hw:=hA'.app.2.1;rw[zDW (ZQ hl4 (zLW p (by simp)) m (fun _=>by decide) hA') hw (fun _=>by decide)];simp[pG]
 | cons q r ih =>
   intro p n a m acc zLW hA hn;obtain⟨n,rfl⟩:∃k,n=k+1:=⟨n-1,by simp at hn;omega⟩;have hq:∀x∈q::r,tB low x:=fun x hx=>zLW x (mt _ hx);have hp:=zLW p (by simp);cases hm:q.minus
   ·have e:uS p++pG (q::r)++[qX]=(uS p++[[43]])++(uS q++pG r++[qX]):=by simp[pG,oS,hm]
    rw[e]at hA;obtain⟨h1,h2⟩:=hA.app;have hs:=h1.app.2.1;rw[qi (ZQ hl4 hp m (fun _=>by decide) h1) hs];rw[tm,mj,<-dg]at h2;rw[ih q n _ false _ hq h2 (by simp at hn;omega)];refine Prod.ext (by simp[hm]) (Prod.ext ?_ rfl);simp[pG,oS,hm];omega
   ·have e:uS p++pG (q::r)++[qX]=(uS p++[[45]])++(uS q++pG r++[qX]):=by simp[pG,oS,hm]
    rw[e]at hA;obtain⟨h1,h2⟩:=hA.app;have hs:=h1.app.2.1;rw[FO (ZQ hl4 hp m (fun _=>by decide) h1) hs];rw[tm,mj,<-dg]at h2;rw[ih q n _ true _ hq h2 (by simp at hn;omega)];refine Prod.ext (by simp[hm]) (Prod.ext ?_ rfl);simp[pG,oS,hm];omega
theorem zDT(ps:List yX):∀(l:List yX) (k:Nat),0<k->ps.drop k=l->((List.range l.length).flatMap fun j=>mT (k+j) (ps.getD (k+j) Q9))=pG l:=by
 intro l
 induction l with
 | nil=>intro k _ _;rfl
 | cons q r ih =>
   intro k hk hd
   have zLL:k<ps.length:=by
    rcases me k ps.length with h|h
    ·exact h
    ·rw[ph h]at hd;cases hd
   rw[pq zLL]at hd;injection hd with h1 h2
   have hg:ps.getD k Q9=q:=by simp[List.getD,zLL,h1]
   rw[p9,List.range_succ_eq_map,bi,List.flatMap_map];have hi:=ih (k+1) (by omega) h2
   have e:((List.range r.length).flatMap fun j=>mT (k+(j+1)) (ps.getD (k+(j+1)) Q9))=pG r:=by
    rw[<-hi];congr 1;funext j;rw[show k+(j+1)=k+1+j by omega]
   show mT (k+0) (ps.getD (k+0) Q9)++((List.range r.length).flatMap fun j=>mT (k+(j+1)) (ps.getD (k+(j+1)) Q9))=_;rw[e,ld,hg];have hs:dV k q=oS q:=by unfold dV oS;rw[tb (by omega)]
   simp[pG,mT,uS,hs]
def rY:List yX->List xI
 | []=>[]
 | p::r=>bH false p::r.map fun q=>bH q.minus q
theorem Dq(p:yX)(r:List yX):bO (p::r)=uS p++pG r:=by
 unfold bO pI;rw[p9,List.range_succ_eq_map,bi,List.flatMap_map];have h:=zDT (p::r) r 1 (by decide) rfl
 have e:((List.range r.length).flatMap fun j=>mT (j+1) ((p::r).getD (j+1) Q9))=pG r:=by
  rw[<-h];congr 1;funext j;rw[Nat.add_comm]
 show mT 0 p++((List.range r.length).flatMap fun j=>mT (j+1) ((p::r).getD (j+1) Q9))=_;rw[e];simp[mT,uS,dV]
theorem qg{low:List Nat}(hl4:∀d∈low,d<4){ps:List yX}(h:jN low ps):SumR (rY ps) (bO ps):=by
 cases ps with
 | nil=>exact absurd h.1 (by simp)
 | cons p r =>
   intro P a hA hl;rw[Dq]at hA hl ⊢;unfold tH;have h1:=h.2.1
   rw[FI hl4 r p P.length a false [] h.2.2 hA (by
    have:r.length<=(pG r).length:=by
     clear h hA hl h1
     induction r with
     | nil=>simp
     | cons q r ih=>simp only[pG,bi,tm,p9]at ih ⊢;have:(oS q).length=1:=by unfold oS;split <;> rfl
                    omega
    rw[tm]at hl;omega)]
   rfl
end Go.Proofs.YtnbpdffdnphbeabGreatDoor
