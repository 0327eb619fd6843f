import Derived.Test.YtnbpdffdnphbeabGreatDoorFLines
namespace Go.Proofs.YtnbpdffdnphbeabGreatDoor
variable{n:Int}{low:List Nat}{i:Nat}{M:yO}(u:Nat)
theorem Ig{d:Nat}(h:d<10):so (UInt8.ofNat (48+d))=2:=(show ∀d:Nat,d<10->so (UInt8.ofNat (48+d))=2 by decide) d h
theorem G0{d:Nat}(h:d<10):((UInt8.ofNat (48+d)).toNat:Int)=48+d:=(show ∀d:Nat,d<10->((UInt8.ofNat (48+d)).toNat:Int)=48+d by decide) d h
theorem QL{u:Nat}(h:¬u<10):Lib.decDigits u=Lib.decDigits (u/10)++[UInt8.ofNat (48+u%10)]:=by
 rw[Lib.decDigits,dif_neg h]
theorem L8:∀c∈Lib.decDigits u,so c=2:=by
 induction u using Nat.strongRecOn with
 | _ u ih =>
   by_cases h:u<10
   ·rw[Lib.decDigits_one h]
    intro c hc;rw[pr.1 hc];exact Ig h
   ·rw[QL h]
    intro c hc;rcases pj.1 hc with h1|h1
    ·exact ih (u/10) (by omega) c h1
    ·rw[pr.1 h1];exact Ig (by omega)
theorem Ie:Lib.decDigits u≠[]:=λe=>by
 have h1:=Lib.decDigits_length u;have h2:=Lib.nDigits_pos u;rw[e]at h1;simp at h1;omega
theorem TD(s:Bs)(c:UInt8):∀a:Int,qQ a (s++[c])=qQ a s*10+((c.toNat:Int)-48):=by
 induction s with
 | nil=>intro a;simp[qQ];omega
 | cons x r ih=>intro a;simp only[li,qQ];rw[ih]
theorem P5:qQ 0 (Lib.decDigits u)=u:=by
 induction u using Nat.strongRecOn with
 | _ u ih =>
   by_cases h:u<10
   ·rw[Lib.decDigits_one h]
    simp only[qQ];rw[G0 h];omega
   ·rw[QL h,TD,ih (u/10) (by omega),G0 (by omega)]
    omega
theorem NX{u:Nat}(h:u<=9999):(Lib.decDigits u).length<=4:=by
 rw[Lib.decDigits_length];by_cases h1:u<10
 ·rw[Lib.nDigits_small h1];decide
 ·rw[Lib.nDigits_big h1]
  by_cases h2:u/10<10
  ·rw[Lib.nDigits_small h2];decide
  ·rw[Lib.nDigits_big h2]
   by_cases h3:u/10/10<10
   ·rw[Lib.nDigits_small h3];decide
   ·rw[Lib.nDigits_big h3,Lib.nDigits_small (by omega)];decide
theorem D3(h:0<=n):Lib.itoa n=Lib.decDigits n.toNat:=by unfold Lib.itoa;rw[i6]
theorem YL(h0:0<=n)(h1:n<=9999):Lib.itoa n≠[]/\(∀c∈Lib.itoa n,so c=2)/\(Lib.itoa n).length<=4/\qQ 0 (Lib.itoa n)=n:=by
 rw[D3 h0];exact⟨Ie _,L8 _,NX (by omega),by rw[P5];omega⟩
theorem P3:0<u->(Lib.decDigits u).getD 0 0≠48:=by
 induction u using Nat.strongRecOn with
 | _ u ih =>
   intro h0;by_cases h:u<10
   ·rw[Lib.decDigits_one h]
    exact(show ∀u:Nat,u<10->0<u->([UInt8.ofNat (48+u)]:Bs).getD 0 0≠48 by decide) u h h0
   ·rw[QL h]
    have h1:=ih (u/10) (by omega) (by omega);have h2:=Ie (u/10)
    cases hd:Lib.decDigits (u/10) with
    | nil=>exact x' hd h2
    | cons a r=>rw[hd]at h1;exact h1
theorem aO(h0:0<=n)(h1:n<=9999):yG (Lib.itoa n)=3/\kM (Lib.itoa n)=n:=by
 obtain⟨a1,a2,a3,a4⟩:=YL h0 h1;have hh:so ((Lib.itoa n).getD 0 0)=2:=a2 _ (pS 0 (List.length_pos_iff.2 a1))
 have hz:¬(4<(Lib.itoa n).length\/1<(Lib.itoa n).length/\(Lib.itoa n).getD 0 0=48):=λq=>by
  rcases q with q|⟨q1,q2⟩
  ·omega
  ·rw[D3 h0]at q1 q2
   by_cases hp:0<n.toNat
   ·exact P3 _ hp q2
   ·rw[show n.toNat=0 by omega,Lib.decDigits_one (by decide)]at q1
    simp at q1
 have hk:yG (Lib.itoa n)=3:=by unfold yG;rw[tj (by rw[hh];decide),tr hh,tj hz]
 exact⟨hk,by unfold kM;rw[tr hk];exact a4⟩
def Ee:List Bs:=[[110,111,116],[40],[41],ZB,eU,[111,114],[97,110,100],[45],[43],[42],[114,117,108,101],[58],[61],[119,104,101,110],[59],[110,117,109],[46,46],[102,108,97,103],[111,118,101,114]]
def Ed:List Bs:=[[110,111,116],[40],[41],ZB,eU,[111,114],[97,110,100],[45],[43],[42],[114,117,108,101],[58],[61],[119,104,101,110],[110,117,109],[46,46],[102,108,97,103],[111,118,101,114]]
structure ZP(P:Bs->Prop):Prop where
 fix:∀x∈Ed,P x
 iy:∀f i,f=110\/f=102\/f=99\/f=114->i<8->P (xU f i)
 num:∀n:Int,0<=n->n<=9999->P (Lib.itoa n)
 mark:∀k,k<6->P (aL k)
structure G9(P:Bs->Prop):Prop where
 fix:∀x∈Ee,P x
 iy:∀f i,f=110\/f=102\/f=99\/f=114->i<8->P (xU f i)
 num:∀n:Int,0<=n->n<=9999->P (Lib.itoa n)
 mark:∀k,k<6->P (aL k)
theorem G9.q{P:Bs->Prop}(h:G9 P):ZP P:=⟨λx hx=>h.fix x ((show ∀x∈Ed,x∈Ee by decide) x hx),h.iy,h.num,h.mark⟩
def nZ(P:Bs->Prop)(l:List Bs):Prop:=∀x∈l,P x
variable {P:Bs->Prop}
theorem nZ.app{a b:List Bs}(ha:nZ P a)(hb:nZ P b):nZ P (a++b):=λx hx=>by
 rcases pj.1 hx with h|h
 ·exact ha x h
 ·exact hb x h
theorem uF:nZ P []:=λx hx=>by cases hx
theorem yW{a:Bs}{l:List Bs}(ha:P a)(hl:nZ P l):nZ P (a::l):=λx hx=>by
 rcases pi.1 hx with rfl|h
 ·exact ha
 ·exact hl x h
theorem dD{p:Prop}[Decidable p]{a b:List Bs}(ha:p->nZ P a)(hb:¬p->nZ P b):nZ P (if p then a else b):=by split <;> rename_i h;exact ha h;exact hb h
theorem BC{f:Nat->List Bs}{n:Nat}(h:∀i,i<n->nZ P (f i)):nZ P ((List.range n).flatMap f):=λx hx=>by
 obtain⟨i,hi,aG⟩:=bg.1 hx;exact h i (me.1 hi) x aG
theorem ZP.inp(h:ZP P)(hi:i<5):P (xC i):=by
 unfold xC;split
 ·exact h.iy _ _ (.inl rfl) (by omega)
 ·exact h.iy _ _ (.inr (.inl rfl)) (by omega)
theorem ZP.one(h:ZP P){x:Bs}(hx:x∈Ed){p:Prop}[Decidable p]:nZ P (if p then [x] else []):=dD (λ_=>yW (h.fix x hx) uF) (λ_=>uF)
theorem Px(hP:ZP P)(aA:∀d∈low,d<4){t:yH}(h:vO low t):nZ P (uZ t):=by
 unfold uZ;rcases h with h|⟨h,x1,x2⟩|⟨h,d,hd,hx⟩|⟨h,⟨x1,x2⟩,⟨y1,y2⟩,⟨m1,m2⟩,n1,n2⟩
 ·rw[tr h];exact yW (hP.fix _ (by decide)) uF
 ·rw[i6,tr h];exact yW (hP.inp (by omega)) uF
 ·rw[i6,i6,tr h]
  have:=aA d hd;exact yW (hP.fix _ (by decide)) (yW (hP.iy _ _ (.inr (.inr (.inl rfl))) (by omega)) uF)
 ·rw[i6,i6,i6]
  exact dD (λ_=>yW (hP.inp (by omega)) (yW (hP.mark _ (by omega)) (yW (hP.num _ n1 n2) uF))) (λ_=>yW (hP.inp (by omega)) (yW (hP.mark _ (by omega)) (yW (hP.inp (by omega)) uF)))
theorem PC(hP:ZP P)(aA:∀d∈low,d<4){t:yH}(h:vO low t)(lo:Bool):nZ P (xM t lo):=by
 unfold xM;exact(((hP.one (by decide)).app (hP.one (by decide))).app (Px hP aA h)).app (hP.one (by decide))
theorem Nk(hP:ZP P)(aA:∀d∈low,d<4){ts:List yH}(h:pG low ts)(wh lo:Bool):nZ P (cL wh ts lo):=by
 unfold cL tM;refine(((hP.one (by decide)).app (hP.one (by decide))).app (BC λi hi=>?_)).app (hP.one (by decide));refine nZ.app ?_ (PC hP aA (h.2.2 _ (pS dA hi)) lo);unfold jL;exact dD (λ_=>uF) (λ_=>dD (λ_=>yW (hP.fix _ (by decide)) uF) (λ_=>yW (hP.fix _ (by decide)) uF))
theorem Ou(hP:ZP P)(aA:∀d∈low,d<4){ps:List xJ}(h:tP low ps):nZ P (cT ps):=by
 unfold cT mL;refine BC λi hi=>?_;have hp:=h.2.2 _ (pS eX hi);generalize ps.getD i eX=p at *;unfold bD fT qR pW kC;refine(((dD (λ_=>uF) (λ_=>dD (λ_=>yW (hP.fix _ (by decide)) uF) (λ_=>yW (hP.fix _ (by decide)) uF))).app (dD (λhc=>yW ?_ uF) (λ_=>uF))).app (hP.one (by decide))).app (dD (λhn=>yW ?_ uF) (λ_=>dD (λhh=>yW ?_ uF) (λ_=>uF)))
 ·rcases hp with ⟨-,h1,-,-⟩|⟨h0,h1,-⟩|⟨-,h1,-⟩|⟨h1,-,-⟩
  ·exact hP.num _ h1.1 h1.2
  ·rcases hc with hc|hc
   ·exact x' (hc.symm.trans h0) (by simp)
   ·omega
  ·exact hP.num _ h1.1 (by omega)
  ·exact hP.num _ h1.1 (by omega)
 ·rcases hp with ⟨-,-,h1,-⟩|⟨-,h1,-⟩|⟨-,-,h1,-⟩|⟨-,h1,-⟩
  ·omega
  ·exact hP.inp (by omega)
  ·exact hP.inp (by omega)
  ·omega
 ·rcases hp with ⟨-,-,-,h1⟩|⟨-,-,h1⟩|⟨-,-,-,h1⟩|⟨-,-,d,hd,h1⟩
  ·omega
  ·omega
  ·omega
  ·have:=aA d hd
   exact hP.iy _ _ (.inr (.inr (.inl rfl))) (by omega)
theorem vu(hP:G9 P)(h:yR M)(lo:Bool):∀l∈xY M lo,nZ P l:=λl hl=>by
 have h8:=h.aj;unfold xY at hl;rcases pj.1 hl with hl|hl
 ·rcases pj.1 hl with hl|hl
  ·obtain⟨i,hi,rfl⟩:=pd.1 hl
   have aD:=me.1 hi;unfold nS;split
   ·rename_i h3
    have:=h.au i h3;exact yW (hP.fix _ (by decide)) (yW (hP.q.inp aD) (yW (hP.num _ (by omega) (by omega)) (yW (hP.fix _ (by decide)) (yW (hP.num _ (by omega) (by omega)) (yW (hP.fix _ (by decide)) uF)))))
   ·exact yW (hP.fix _ (by decide)) (yW (hP.q.inp aD) (yW (hP.fix _ (by decide)) uF))
  ·obtain⟨i,hi,rfl⟩:=pd.1 hl
   have hr:=h.rules _ (pS oA (me.1 hi));have aH:=me.1 hi;generalize M.rules.getD i oA=r at *;have hh:=hr.head;have aA:∀d∈xP M.aa r.head,d<4:=λd hd=>by have:=Z5 hd;omega
   have q1:nZ P [[114,117,108,101],xU 114 i,[58],xU 99 r.head,[61]]:=yW (hP.fix _ (by decide)) (yW (hP.iy _ _ (.inr (.inr (.inr rfl))) (by omega)) (yW (hP.fix _ (by decide)) (yW (hP.iy _ _ (.inr (.inr (.inl rfl))) (by omega)) (yW (hP.fix _ (by decide)) uF))));unfold dU;exact(((q1.app (Ou hP.q aA hr.parts)).app (yW (hP.fix _ (by decide)) uF)).app (Nk hP.q aA hr.tests _ _)).app (yW (hP.fix _ (by decide)) uF)
 ·obtain⟨i,hi,hl⟩:=bg.1 hl
  have aH:=me.1 hi;unfold pF at hl;obtain⟨j,hj,hl⟩:=bg.1 hl;have aK:=me.1 hj;split at hl
  ·rw[pr.1 hl]
   exact yW (hP.fix _ (by decide)) (yW (hP.iy _ _ (.inr (.inr (.inr rfl))) (by omega)) (yW (hP.iy _ _ (.inr (.inr (.inr rfl))) (by omega)) (yW (hP.fix _ (by decide)) uF)))
  ·cases hl
theorem MG{f:UInt8}(hf:f=110\/f=102\/f=99\/f=114)(hi:i<8):∀x∈xU f i,so x=1:=by
 have h:i=0\/i=1\/i=2\/i=3\/i=4\/i=5\/i=6\/i=7:=by omega
 rcases hf with rfl|rfl|rfl|rfl <;> rcases h with rfl|rfl|rfl|rfl|rfl|rfl|rfl|rfl <;> decide
theorem PN:G9 Wd:=by
 have run:∀x:Bs,x≠[]->(∀c∈x,so c=1)->Wd x:=λx h1 h2=>jz 1 (.inl rfl) h1 h2;have m1:∀m:UInt8,so m=0->mI jY [m,32]=false->mI jY [m,59]=false->mI jY [m,10]=false->Wd [m]:=λm a b c d=>PM a b c d;refine⟨λx hx=>?_,λf i hf hi=>run _ (by unfold xU;simp) (MG hf hi),λn h0 h1=>jz 2 (.inr rfl) (YL h0 h1).1 (YL h0 h1).2.1,λk hk=>?_⟩
 ·simp only[Ee,pi,lq,df]at hx
  rcases hx with rfl|rfl|rfl|rfl|rfl|rfl|rfl|rfl|rfl|rfl|rfl|rfl|rfl|rfl|rfl|rfl|rfl|rfl|rfl
  all_goals first
   | exact run _ (by decide) (by decide)
   | exact m1 _ (by decide) (by decide) (by decide) (by decide)
   | exact VQ
 ·have h:k=0\/k=1\/k=2\/k=3\/k=4\/k=5:=by omega
  rcases h with rfl|rfl|rfl|rfl|rfl|rfl
  all_goals first
   | exact m1 _ (by decide) (by decide) (by decide) (by decide)
   | exact VQ
theorem Rp(h:yR M)(lo:Bool):∀l∈xY M lo,∀x∈l,Wd x:=vu PN h lo
theorem KD(h:yR M)(lo:Bool):tw (X1 (xY M lo))=(xY M lo).flatten:=M9 _ (Rp h lo)
theorem yj{r a b:Bs}(hr:yG r=2)(ha:yG a=3)(hb:yG b=3):GB ⟨1,r,kM a,kM b,[],[],[],0,0,0,[]⟩ [[110,117,109],r,a,[46,46],b,qM]:=by
 refine⟨λw r h=>by cases h;decide,by simp,λP x h _=>?_⟩;obtain⟨h0,h1,h2,h3,h4,h5,_⟩:=h;unfold vP;simp only[cC h0 (by decide)];unfold kN;simp only[bL h1 hr,sB h2 ha,gP h3 (by decide),sB h4 hb,show ([59]:Bs)=qM from rfl,gP h5 (by decide)];rfl
theorem CE{r:Bs}(hr:yG r=2):GB ⟨2,r,0,0,[],[],[],0,0,0,[]⟩ [[102,108,97,103],r,qM]:=by
 refine⟨λw r h=>by cases h;decide,by simp,λP x h _=>?_⟩;obtain⟨h0,h1,h2,_⟩:=h;unfold vP;simp only[kT h0 [110,117,109] (λ_=>by decide),cC h0 (by decide)];unfold jH;simp only[bL h1 hr,show ([59]:Bs)=qM from rfl,gP h2 (by decide)];rfl
def qA(p:xJ):List Bs:=qR p++pW p++kC p
def rU(p:xJ):List Bs:=if p.minus=true then [[45]] else [[43]]
def mK(l:List xJ):List Bs:=l.flatMap λq=>rU q++qA q
def rR(m:Bool)(p:xJ):yT:=if p.times=true then ⟨m,true,p.n,if 0<=p.num then xC p.num.toNat else xU 99 p.head.toNat⟩ else if 0<=p.num then ⟨m,false,0,xC p.num.toNat⟩ else if 0<=p.head then ⟨m,false,0,xU 99 p.head.toNat⟩ else ⟨m,false,p.n,[]⟩
theorem lD{f:UInt8}(hf:f=110\/f=102\/f=99\/f=114)(hi:i<8):yG (xU f i)=2:=by
 have h:i=0\/i=1\/i=2\/i=3\/i=4\/i=5\/i=6\/i=7:=by omega
 rcases hf with rfl|rfl|rfl|rfl <;> rcases h with rfl|rfl|rfl|rfl|rfl|rfl|rfl|rfl <;> decide
theorem dN(hi:i<5):yG (xC i)=2:=by
 unfold xC;split
 ·exact lD (.inl rfl) (by omega)
 ·exact lD (.inr (.inl rfl)) (by omega)
theorem Y0(aA:∀d∈low,d<4){p:xJ}(h:mJ low p){P:List PT}{a:Nat}{v:Bs}(m:Bool)(hv:yG v=4->v≠[42])(hA:ZW P a (qA p++[v])):vV P m (a,false)=(rR m p,(a+(qA p).length,false)):=by
 obtain⟨mi,ti,n,nu,hd⟩:=p;rcases h with ⟨h0,h1,h2,h3⟩|⟨h0,h1,h2⟩|⟨h0,h1,h2,h3⟩|⟨h1,h2,d,aJ,h3⟩
 ·simp only at h0 h1 h2 h3
  subst h0 h2 h3;have e:qA ⟨mi,false,n,-1,-1⟩=[Lib.itoa n]:=by simp[qA,qR,pW,kC]
  rw[e]at hA ⊢;obtain⟨k1,k2⟩:=aO h1.1 h1.2;rw[Sa m hA.1 k1 hA.2.1 hv,k2];rfl
 ·simp only at h0 h1 h2
  subst h0 h2;have e:qA ⟨mi,false,n,nu,-1⟩=[xC nu.toNat]:=by simp[qA,qR,pW,kC,h1.1]
  rw[e]at hA ⊢;rw[JS m hA.1 (dN (by omega))];simp[rR,h1.1]
 ·simp only at h0 h1 h2 h3
  subst h0 h3;have e:qA ⟨mi,true,n,nu,-1⟩=[Lib.itoa n,[42],xC nu.toNat]:=by simp[qA,qR,pW,kC,h2.1]
  rw[e]at hA ⊢;obtain⟨k1,k2⟩:=aO h1.1 (by omega);rw[JR m hA.1 k1 hA.2.1 hA.2.2.1 (dN (by omega)),k2];simp[rR,h2.1]
 ·simp only at h1 h2 h3
  subst h2 h3;have aI:=aA d aJ;cases ti
  ·have e:qA ⟨mi,false,n,-1,d⟩=[xU 99 d]:=by simp[qA,qR,pW,kC]
   rw[e]at hA ⊢;rw[JS m hA.1 (lD (.inr (.inr (.inl rfl))) (by omega))];simp[rR]
  ·have e:qA ⟨mi,true,n,-1,d⟩=[Lib.itoa n,[42],xU 99 d]:=by simp[qA,qR,pW,kC]
   rw[e]at hA ⊢;obtain⟨k1,k2⟩:=aO h1.1 (by omega);rw[JR m hA.1 k1 hA.2.1 hA.2.2.1 (lD (.inr (.inr (.inl rfl))) (by omega)),k2];simp[rR]
theorem zb(aA:∀d∈low,d<4){P:List PT}:∀(l:List xJ) (p:xJ) (n a:Nat) (m:Bool) (acc:List yT),(∀q∈p::l,mJ low q)->ZW P a (qA p++mK l++[xF])->l.length<n->tB P n m (a,false) acc=(acc++rR m p::l.map (λq=>rR q.minus q),(a+(qA p++mK l).length,false)):=by
 intro l
 induction l with
 | nil =>
   intro p n a m acc aB hA hn;obtain⟨n,rfl⟩:∃k,n=k+1:=⟨n-1,by simp at hn;omega⟩;have aF:ZW P a (qA p++[xF]):=by simpa[mK] using hA
   have hw:=aF.app.2.1;rw[Ow (Y0 aA (aB p (by simp)) m (λ_=>by decide) aF) hw (λ_=>by decide)];simp[mK]
 | cons q r ih =>
   intro p n a m acc aB hA hn;obtain⟨n,rfl⟩:∃k,n=k+1:=⟨n-1,by simp at hn;omega⟩;have hq:∀x∈q::r,mJ low x:=λx hx=>aB x (py _ hx);have hp:=aB p (by simp);cases hm:q.minus
   ·have e:qA p++mK (q::r)++[xF]=(qA p++[[43]])++(qA q++mK r++[xF]):=by simp[mK,rU,hm]
    rw[e]at hA;obtain⟨h1,h2⟩:=hA.app;have hs:=h1.app.2.1;rw[Ss (Y0 aA hp m (λ_=>by decide) h1) hs];rw[tm,pu,<-dg]at h2;rw[ih q n _ false _ hq h2 (by simp at hn;omega)];refine Prod.ext (by simp[hm]) (Prod.ext ?_ rfl);simp[mK,rU,hm];omega
   ·have e:qA p++mK (q::r)++[xF]=(qA p++[[45]])++(qA q++mK r++[xF]):=by simp[mK,rU,hm]
    rw[e]at hA;obtain⟨h1,h2⟩:=hA.app;have hs:=h1.app.2.1;rw[zm (Y0 aA hp m (λ_=>by decide) h1) hs];rw[tm,pu,<-dg]at h2;rw[ih q n _ true _ hq h2 (by simp at hn;omega)];refine Prod.ext (by simp[hm]) (Prod.ext ?_ rfl);simp[mK,rU,hm];omega
theorem O5(ps:List xJ):∀(l:List xJ) (k:Nat),0<k->ps.drop k=l->((List.range l.length).flatMap λj=>bD (k+j) (ps.getD (k+j) eX))=mK l:=by
 intro l
 induction l with
 | nil=>intro k _ _;rfl
 | cons q r ih =>
   intro k hk hd
   have aC:k<ps.length:=by
    rcases mc k ps.length with h|h
    ·exact h
    ·rw[pf h]at hd;cases hd
   rw[ph aC]at hd;injection hd with h1 h2
   have hg:ps.getD k eX=q:=(by simp[List.getD,aC,h1]);rw[pb,List.range_succ_eq_map,cg,List.flatMap_map];have hi:=ih (k+1) (by omega) h2
   have e:((List.range r.length).flatMap λj=>bD (k+(j+1)) (ps.getD (k+(j+1)) eX))=mK r:=by
    rw[<-hi];congr 1;funext j;rw[show k+(j+1)=k+1+j by omega]
   show bD (k+0) (ps.getD (k+0) eX)++((List.range r.length).flatMap λj=>bD (k+(j+1)) (ps.getD (k+(j+1)) eX))=_;rw[e,lh,hg];have hs:fT k q=rU q:=by unfold fT rU;rw[i6]
   simp[mK,bD,qA,hs]
def wF:List xJ->List yT
 | []=>[]
 | p::r=>rR false p::r.map λq=>rR q.minus q
theorem F4(p:xJ)(r:List xJ):cT (p::r)=qA p++mK r:=by
 unfold cT mL;rw[pb,List.range_succ_eq_map,cg,List.flatMap_map];have h:=O5 (p::r) r 1 (by decide) rfl
 have e:((List.range r.length).flatMap λj=>bD (j+1) ((p::r).getD (j+1) eX))=mK r:=by
  rw[<-h];congr 1;funext j;rw[Nat.add_comm]
 show bD 0 p++((List.range r.length).flatMap λj=>bD (j+1) ((p::r).getD (j+1) eX))=_;rw[e];simp[bD,qA,fT]
theorem Su(aA:∀d∈low,d<4){ps:List xJ}(h:tP low ps):Ht (wF ps) (cT ps):=by
 cases ps with
 | nil=>exact x' h.1 (by simp)
 | cons p r =>
   intro P a hA hl;rw[F4]at hA hl ⊢;unfold jS;have h1:=h.2.1
   rw[zb aA r p P.length a false [] h.2.2 hA (by
    have:r.length<=(mK r).length:=by
     clear h hA hl h1
     induction r with
     | nil=>simp
     | cons q r ih=>simp only[mK,cg,tm,pb]at ih ⊢;have:(rU q).length=1:=by unfold rU;split <;> rfl
                    omega
    rw[tm]at hl;omega)]
   rfl
end Go.Proofs.YtnbpdffdnphbeabGreatDoor
