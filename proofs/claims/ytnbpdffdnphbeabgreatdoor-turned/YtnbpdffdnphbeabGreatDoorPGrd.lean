import Derived.Test.YtnbpdffdnphbeabGreatDoorPItoa
namespace Go.Proofs.YtnbpdffdnphbeabGreatDoor
variable{v w:Bs}{k i:Int}{N:List zR}{a m:Nat}(t:yC)(l:List yC)(lo:Bool)
def mN(t:yC):zR :=
 if t.kind=0 then ⟨4,0,0,[],[],[],0⟩ else if t.kind=1 then ⟨6,0,0,yD t.x.toNat,[],[],0⟩ else if t.kind=2 then ⟨5,0,0,xM 99 t.x.toNat,[],[],0⟩ else
 if t.kind=3 then ⟨7,0,0,yD t.x.toNat,sX t.mark.toNat,[],t.n⟩ else ⟨7,0,0,yD t.x.toNat,sX t.mark.toNat,yD t.y.toNat,0⟩
theorem YX:4<=(mN t).kind:=by
 unfold mN;split
 ·simp
 ·split
  ·simp
  ·split
   ·simp
   ·split <;> simp
def vg(v:Bs):Prop:=v=cU\/v=kM\/v=dQ\/v=Q8
theorem vg.cmp(h:vg v):iD.contains v=false:=by rcases h with rfl|rfl|rfl|rfl <;> decide
theorem BX{k:Nat}(hk:k<6):iD.contains (sX k)=true/\yI (sX k)=4/\(sX k).isEmpty=false:=by
 have h:k=0\/k=1\/k=2\/k=3\/k=4\/k=5:=by omega
 rcases h with rfl|rfl|rfl|rfl|rfl|rfl <;> decide
variable {P:List PT}
theorem zBX{k:Nat}(hk:k<6)(h:At P a (sX k)):vU P (a,false)=(sX k,(a+1,false)):=by
 obtain⟨h1,h2,-⟩:=BX hk;unfold vU;simp only[h.2.1,h1,bA h h2]
theorem zJV(h:At P a v)(hv:iD.contains v=false):vU P (a,false)=([],(a,false)):=by
 unfold vU;simp only[h.2.1,hv]
theorem FH(h:At P a w)(hk:yI w=2)(h2:At P (a+1) v)(hv:iD.contains v=false):vY P (a,false)=(⟨6,0,0,w,[],[],0⟩,(a+1,false)):=by
 unfold vY;simp only[kG h [97,108,119,97,121,115] (fun k=>absurd (hk.symm.trans k) (by decide)),kG h [104,97,115] (fun k=>absurd (hk.symm.trans k) (by decide)),lB h hk,zJV h2 hv,List.isEmpty_nil]
theorem uy{n:Bs}(h:At P a w)(hk:yI w=2)(hm:m<6)(h2:At P (a+1) (sX m))(h3:At P (a+1+1) n)(hn:yI n=3):vY P (a,false)=(⟨7,0,0,w,sX m,[],kQ n⟩,(a+1+1+1,false)):=by
 unfold vY;simp only[kG h [97,108,119,97,121,115] (fun k=>absurd (hk.symm.trans k) (by decide)),kG h [104,97,115] (fun k=>absurd (hk.symm.trans k) (by decide)),lB h hk,zBX hm h2,(BX hm).2.2,Km h3 hn,oZ h3 hn]
theorem uv{n:Bs}(h:At P a w)(hk:yI w=2)(hm:m<6)(h2:At P (a+1) (sX m))(h3:At P (a+1+1) n)(hn:yI n=2):vY P (a,false)=(⟨7,0,0,w,sX m,n,0⟩,(a+1+1+1,false)):=by
 unfold vY;simp only[kG h [97,108,119,97,121,115] (fun k=>absurd (hk.symm.trans k) (by decide)),kG h [104,97,115] (fun k=>absurd (hk.symm.trans k) (by decide)),lB h hk,zBX hm h2,(BX hm).2.2,DN h3 (by rw[hn];decide),lB h3 hn]
theorem J6{low:List Nat}(hl4:∀d∈low,d<4){t:yC}(h:vM low t)(hv:vg v)(hA:Zu P a (uR t++[v])):(∃w r,uR t=w::r/\(yI w=4->w≠vK/\w≠vO))/\vY P (a,false)=(mN t,(a+(uR t).length,false)):=by
 have nk:∀w:Bs,yI w=2->yI w=4->w≠vK/\w≠vO:=fun w h1 h2=>absurd (h1.symm.trans h2) (by decide);rcases h with h|⟨h,x1,x2⟩|⟨h,d,hd,hx⟩|⟨h,⟨x1,x2⟩,⟨y1,y2⟩,⟨m1,m2⟩,n1,n2⟩
 ·have e1:uR t=[wU]:=by unfold uR;rw[tl h]
  have e2:mN t=⟨4,0,0,[],[],[],0⟩:=by unfold mN;rw[tl h]
  rw[e1]at hA ⊢;rw[e2];exact⟨⟨_,_,rfl,fun _=>by decide⟩,qb hA.1⟩
 ·have e1:uR t=[yD t.x.toNat]:=by unfold uR;rw[tb (by omega),tl h]
  have e2:mN t=⟨6,0,0,yD t.x.toNat,[],[],0⟩:=by unfold mN;rw[tb (by omega),tl h]
  have hk:yI (yD t.x.toNat)=2:=lG (by omega);rw[e1]at hA ⊢;rw[e2];exact⟨⟨_,_,rfl,nk _ hk⟩,FH hA.1 hk hA.2.1 hv.cmp⟩
 ·have e1:uR t=[aU,xM 99 t.x.toNat]:=by unfold uR;rw[tb (by omega),tb (by omega),tl h]
  have e2:mN t=⟨5,0,0,xM 99 t.x.toNat,[],[],0⟩:=by unfold mN;rw[tb (by omega),tb (by omega),tl h]
  have:=hl4 d hd;have hk:yI (xM 99 t.x.toNat)=2:=mB (.inr (.inr (.inl rfl))) (by omega);rw[e1]at hA ⊢;rw[e2];exact⟨⟨_,_,rfl,fun _=>by decide⟩,uz hA.1 hA.2.1 hk⟩
 ·have hk:yI (yD t.x.toNat)=2:=lG (by omega)
  have hk2:yI (yD t.y.toNat)=2:=lG (by omega);rcases h with h|h
  ·have e1:uR t=[yD t.x.toNat,sX t.mark.toNat,Lib.itoa t.n]:=by unfold uR;rw[tb (by omega),tb (by omega),tb (by omega),tl h]
   have e2:mN t=⟨7,0,0,yD t.x.toNat,sX t.mark.toNat,[],t.n⟩:=by unfold mN;rw[tb (by omega),tb (by omega),tb (by omega),tl h]
   obtain⟨k1,k2⟩:=nO n1 n2;rw[e1]at hA ⊢;rw[e2];refine⟨⟨_,_,rfl,nk _ hk⟩,?_⟩;rw[uy hA.1 hk (by omega) hA.2.1 hA.2.2.1 k1,k2];rfl
  ·have e1:uR t=[yD t.x.toNat,sX t.mark.toNat,yD t.y.toNat]:=by unfold uR;rw[tb (by omega),tb (by omega),tb (by omega),tb (by omega)]
   have e2:mN t=⟨7,0,0,yD t.x.toNat,sX t.mark.toNat,yD t.y.toNat,0⟩:=by unfold mN;rw[tb (by omega),tb (by omega),tb (by omega),tb (by omega)]
   rw[e1]at hA ⊢;rw[e2];refine⟨⟨_,_,rfl,nk _ hk⟩,?_⟩;rw[uv hA.1 hk (by omega) hA.2.1 hA.2.2.1 hk2];rfl
theorem Qa{n b:Nat}{nd':List zR}{t' p':Int}(nd:List zR)(t p d:Int)(h:At P a vO)(hf:ZT P (xB P n) ⟨(a+1,false),nd,t,p⟩ (d+1)=(i,⟨(b,false),nd',t',p'⟩))(hs:At P b kM):xB P (n+1) ⟨(a,false),nd,t,p⟩ d=(i,⟨(b+1,false),nd',t',p'⟩):=by
 rw[xB];simp only[kG h vK (fun _=>by decide),bA h (by decide),GS.to,hf,fD hs (by decide)]
def CL(t:yC)(lo:Bool):List Bs:=(if (lo&&t.pair)=true then [vO] else [])++uR t++(if (lo&&t.pair)=true then [kM] else [])
theorem zDP:xC t lo=(if t.not=true then [vK] else [])++CL t lo:=by
 unfold xC CL;rw[<-pr,<-pr];rfl
theorem Fl{low:List Nat}(hl4:∀d∈low,d<4){t:yC}(h:vM low t)(lo:Bool){n:Nat}(nd:List zR)(tt p d D:Int)(hv:vg v)(hA:Zu P a (CL t lo++[v]))(hn:(CL t lo).length<=n)(hP:0<P.length)(hp:p<=D)(hd:d+1<=D) :
 ∃p',p'<=D/\xB P n ⟨(a,false),nd,tt,p⟩ d=(((nd.length:Nat):Int),⟨(a+(CL t lo).length,false),nd++[mN t],tt+1,p'⟩):=by
 have hc:=(Qg t).1;cases hb:(lo&&t.pair)
 ·have e:CL t lo=uR t:=by simp[CL,hb]
  rw[e]at hA hn ⊢;obtain⟨⟨w,r,ew,hw⟩,ht⟩:=J6 hl4 h hv hA;obtain⟨n,rfl⟩:∃k,n=k+1:=⟨n-1,by omega⟩;have h0:At P a w:=by rw[ew]at hA;exact hA.1
  exact⟨dp p d,by unfold dp;split <;> omega,XZ nd tt p d h0 hw ht⟩
 ·have e:CL t lo=vO::(uR t++[kM]):=by simp[CL,hb]
  rw[e]at hA hn ⊢;obtain⟨h0,h1⟩:=hA;obtain⟨h2,-⟩:=Zu.app (us:=[v]) (ws:=uR t++[kM]) h1;obtain⟨⟨w,r,ew,hw⟩,ht⟩:=J6 hl4 h (v:=kM) (.inr (.inl rfl)) h2;have hs:=h2.app.2.1;have hl:(vO::(uR t++[kM])).length=(uR t).length+2:=by simp
  rw[hl]at hn ⊢;obtain⟨n,rfl⟩:∃k,n=k+1+1:=⟨n-2,by omega⟩;have h0':At P (a+1) w:=by rw[ew]at h2;exact h2.1
  have hf:=XZ (n:=n) nd tt p (d+1) h0' hw ht;refine⟨dp p (d+1),by unfold dp;split <;> omega,?_⟩;rw[Qa nd tt p d h0 (K4 hP (Zw hP hf hs (fun _=>by decide)) hs (fun _=>by decide)) hs];rw[show a+1+(uR t).length+1=a+((uR t).length+2) by omega]
structure GA where
 α:Type
 core:yC->α
 andA:α->α->α
 orA:α->α->α
 notA:Bool->α->α
 J:List zR->Int->Int->α->Prop
structure GA.Ok(A:GA)(low:List Nat):Prop where
 ext:∀N E i k x,A.J N i k x->A.J (N++E) i k x
 core:∀N t,vM low t->A.J (N++[mN t]) ((N.length:Nat):Int) (mN t).kind (A.core t)
 and:∀N l kl x r kr y,A.J N l kl x->A.J N r kr y->kl≠1->kr≠1->A.J (N++[⟨2,l,r,[],[],[],0⟩]) ((N.length:Nat):Int) 2 (A.andA x y)
 or:∀N l kl x r kr y,A.J N l kl x->A.J N r kr y->A.J (N++[⟨1,l,r,[],[],[],0⟩]) ((N.length:Nat):Int) 1 (A.orA x y)
 not:∀N l kl x,A.J N l kl x->A.J (N++[⟨3,l,0,[],[],[],0⟩]) ((N.length:Nat):Int) 3 (A.notA (decide (kl=1\/kl=2)) x)
abbrev GX:=∀A:GA,A.α
def tV(t:yC):GX:=fun A=>if t.not=true then A.notA false (A.core t) else A.core t
def zCC(x y:GX):GX:=fun A=>A.andA (x A) (y A)
def orX(x y:GX):GX:=fun A=>A.orA (x A) (y A)
def notX(b:Bool)(x:GX):GX:=fun A=>A.notA b (x A)
def zHP(low:List Nat)(N:List zR)(i k:Int)(x:GX):Prop:=∀A:GA,A.Ok low->A.J N i k (x A)
def zGJ(low:List Nat)(x:zR):Prop:=(x.kind=1\/x.kind=2\/x.kind=3)\/∃t,vM low t/\x=mN t
def Y5(low:List Nat)(nd E:List zR)(m:Nat):Prop:=(∀z∈E,zGJ low z)/\(dI nd->dI (nd++E))/\E.length<=m
theorem Cv{z:zR}(h:dI N)(h1:z.kind=1\/z.kind=2->0<=z.left/\z.left<N.length/\0<=z.right/\z.right<N.length)(h3:z.kind=3->0<=z.left/\z.left<N.length)(h4:¬z.kind=1->¬z.kind=2->¬z.kind=3->(4<=z.kind/\z.kind<=7)/\0<=z.num/\z.num<=9999):dI (N++[z]):=by
 intro a ha;rcases me a N.length with h5|h5
 ·have e:pP (N++[z]) a=pP N a:=by unfold pP;rw[p8,p8,mu h5]
  rw[e];exact h a h5
 ·have e:a=N.length:=by rw[tm,mj]at ha;omega
  subst e;have e2:pP (N++[z]) N.length=z:=by unfold pP;simp[List.getD]
  rw[e2];exact⟨fun q=>h1 (.inl q),fun q=>h1 (.inr q),h3,h4⟩
theorem ZJ:dI []:=by intro a ha;exact absurd ha (by simp)
theorem zDU{low:List Nat}{t:yC}(h:vM low t):(mN t).kind<=7/\0<=(mN t).num/\(mN t).num<=9999:=by
 unfold mN;rcases h with h0|⟨h0,-⟩|⟨h0,-⟩|⟨h0|h0,-,-,-,n1,n2⟩
 ·rw[tl h0];exact⟨show (4:Int)<=7 by decide,lh _,show (0:Int)<=9999 by decide⟩
 ·rw[tb (by omega),tl h0];exact⟨show (6:Int)<=7 by decide,lh _,show (0:Int)<=9999 by decide⟩
 ·rw[tb (by omega),tb (by omega),tl h0];exact⟨show (5:Int)<=7 by decide,lh _,show (0:Int)<=9999 by decide⟩
 ·rw[tb (by omega),tb (by omega),tb (by omega),tl h0];exact⟨show (7:Int)<=7 by decide,n1,n2⟩
 ·rw[tb (by omega),tb (by omega),tb (by omega),tb (by omega)];exact⟨show (7:Int)<=7 by decide,lh _,show (0:Int)<=9999 by decide⟩
theorem zFO{low:List Nat}(h:dI N){t:yC}(ht:vM low t):dI (N++[mN t]):=by
 have h1:=YX t;have h2:=zDU ht;exact Cv h (fun q=>by omega) (fun q=>by omega) (fun _ _ _=>⟨⟨h1,h2.1⟩,h2.2⟩)
theorem Cu(h:dI N)(h0:0<=i)(h1:i<N.length):dI (N++[⟨3,i,0,[],[],[],0⟩]) :=
 Cv h (fun q=>absurd q (show ¬((3:Int)=1\/(3:Int)=2) by decide)) (fun _=>⟨h0,h1⟩) (fun _ _ q=>absurd rfl q)
theorem zJH(h:dI N){l r:Int}(hk:k=1\/k=2)(l0:0<=l)(l1:l<N.length)(r0:0<=r)(r1:r<N.length):dI (N++[⟨k,l,r,[],[],[],0⟩]) :=
 Cv h (fun _=>⟨l0,l1,r0,r1⟩) (fun q=>absurd (show k=3 from q) (by omega)) (fun q1 q2 _=>absurd hk (fun h=>h.elim (fun h=>q1 h) (fun h=>q2 h)))
def bdA:GA:=⟨Unit,fun _=>(),fun _ _=>(),fun _ _=>(),fun _ _=>(),fun N i _ _=>0<=i/\i<N.length⟩
theorem zJX(low:List Nat):bdA.Ok low where
 ext:=fun N E i k x ⟨h0,h1⟩=>⟨h0,by rw[tm];omega⟩
 core:=fun N t _=>⟨by omega,by rw[tm,mj];omega⟩
 and:=fun N l kl x r kr y _ _ _ _=>⟨by omega,by rw[tm,mj];omega⟩
 or:=fun N l kl x r kr y _ _=>⟨by omega,by rw[tm,mj];omega⟩
 not:=fun N l kl x _=>⟨by omega,by rw[tm,mj];omega⟩
theorem Zm{low:List Nat}{x:GX}(h:zHP low N i k x):0<=i/\i<N.length:=h bdA (zJX low)
theorem Y5.nil(low:List Nat)(nd:List zR)(m:Nat):Y5 low nd [] m:=⟨fun z hz=>(by cases hz),fun h=>by rw[ms];exact h,tx _⟩
theorem Y5.app{low:List Nat}{nd E E':List zR}{m' n:Nat}(h:Y5 low nd E m)(h':Y5 low (nd++E) E' m')(hn:m+m'<=n):Y5 low nd (E++E') n:=by
 refine⟨fun z hz=>?_,fun hg=>by rw[<-pr];exact h'.2.1 (h.2.1 hg),by rw[tm];have:=h.2.2;have:=h'.2.2;omega⟩;rcases pt.1 hz with hz|hz
 ·exact h.1 z hz
 ·exact h'.1 z hz
theorem Y5.two{low:List Nat}{nd:List zR}{l r:Int}(hk:k=1\/k=2)(hl:0<=l/\l<nd.length)(hr:0<=r/\r<nd.length):Y5 low nd [⟨k,l,r,[],[],[],0⟩] 1 :=
 ⟨fun z hz=>by rw[pu.1 hz];exact .inl (hk.elim .inl fun q=>.inr (.inl q)),fun hg=>zJH hg hk hl.1 hl.2 hr.1 hr.2,j1 _⟩
theorem Y5.not{low:List Nat}{nd:List zR}(hi:0<=i/\i<nd.length):Y5 low nd [⟨3,i,0,[],[],[],0⟩] 1 :=
 ⟨fun z hz=>by rw[pu.1 hz];exact .inl (.inr (.inr rfl)),fun hg=>Cu hg hi.1 hi.2,j1 _⟩
theorem Y5.test{low:List Nat}{nd:List zR}{t:yC}(h:vM low t):Y5 low nd [mN t] 1 :=
 ⟨fun z hz=>by rw[pu.1 hz];exact .inr ⟨t,h,rfl⟩,fun hg=>zFO hg h,j1 _⟩
theorem Y5.mono{low:List Nat}{nd E:List zR}{n:Nat}(h:Y5 low nd E m)(hn:m<=n):Y5 low nd E n:=⟨h.1,h.2.1,ty h.2.2 hn⟩
theorem Fm:1<=(CL t lo).length:=by
 have:=(Qg t).1;unfold CL;split <;> simp <;> omega
def zCQ(low:List Nat)(D:Int)(nd:List zR)(tt:Int)(b m:Nat)(c k:Int)(x:GX)(y:Int × GS):Prop:=∃i E p',y=(i,⟨(b,false),nd++E,tt+c,p'⟩)/\p'<=D/\zHP low (nd++E) i k x/\Y5 low nd E m
theorem DU{s s':St}{nd nd':List zR}{t t' p:Int}(h0:s=s')(h1:nd=nd')(h2:t=t'):((i,⟨s,nd,t,p⟩):Int × GS)=(i,⟨s',nd',t',p⟩):=by subst h0 h1 h2;rfl
theorem YP{low:List Nat}(hl4:∀d∈low,d<4){t:yC}(h:vM low t)(lo:Bool){n:Nat}(nd:List zR)(tt p d D:Int)(hv:vg v)(hA:Zu P a (xC t lo++[v]))(hn:(xC t lo).length<=n)(hP:0<P.length)(hp:p<=D)(hd:d+2<=D) :
 ∃k,3<=k/\zCQ low D nd tt (a+(xC t lo).length) (xC t lo).length 1 k (tV t) (xB P n ⟨(a,false),nd,tt,p⟩ d):=by
 have e:=zDP t lo;have hk:=YX t;cases hn':t.not
 ·rw[hn']at e
  have e':xC t lo=CL t lo:=e;rw[e']at hA hn ⊢;obtain⟨p',h1,h2⟩:=Fl hl4 h lo nd tt p d D hv hA hn hP hp (by omega);refine⟨(mN t).kind,by omega,_,[mN t],p',h2,h1,fun A hO=>?_,(Y5.test h).mono (Fm t lo)⟩
  ·have ex:tV t A=A.core t:=by unfold tV;rw[hn'];rfl
   rw[ex];exact hO.core nd t h
 ·rw[hn']at e
  have e':xC t lo=vK::CL t lo:=e;rw[e']at hA hn ⊢;obtain⟨h0,hA1⟩:=hA;obtain⟨n,rfl⟩:∃k,n=k+1:=⟨n-1,by simp at hn;omega⟩;obtain⟨p',h1,h2⟩:=Fl hl4 h lo nd tt p (d+1) D hv hA1 (by simp at hn;omega) hP hp (by omega);refine⟨3,by decide,(((nd++[mN t]).length:Nat):Int),[mN t,⟨3,(nd.length:Nat),0,[],[],[],0⟩],p',?_,h1,fun A hO=>?_,(Y5.test h).app (m':=1) (Y5.not ⟨by omega,by rw[tm,mj];omega⟩) (by have:=Fm t lo;simp only[p9];omega)⟩
  ·rw[ZM nd tt p d h0 h2]
   simp only[GS.add,pr,List.singleton_append,p9];rw[show a+1+(CL t lo).length=a+((CL t lo).length+1) by omega]
  ·have ex:tV t A=A.notA (decide ((mN t).kind=1\/(mN t).kind=2)) (A.core t):=by
    unfold tV;rw[hn',tu (by omega)];rfl
   rw[ex,show nd++[mN t,(⟨3,(nd.length:Nat),0,[],[],[],0⟩:zR)]=(nd++[mN t])++[⟨3,(nd.length:Nat),0,[],[],[],0⟩] by simp];exact hO.not _ _ _ _ (hO.core nd t h)
def bL(t:yC):List Bs:=if t.or=true then [Q8] else [dQ]
def yK(l:List yC)(lo:Bool):List Bs:=l.flatMap fun q=>bL q++xC q lo
def U9(x:GX)(g:List yC):GX:=g.foldl (fun x t=>zCC x (tV t)) x
theorem YW{l:List yC}{lo:Bool}(hv:v=cU\/v=kM):∃v' r,yK l lo++[v]=v'::r/\vg v'/\(v'=dQ->∃t l',l=t::l'/\t.or=false):=by
 cases l with
 | nil =>
   refine⟨v,[],rfl,?_,fun e=>?_⟩
   ·rcases hv with rfl|rfl
    ·exact .inl rfl
    ·exact .inr (.inl rfl)
   ·rcases hv with rfl|rfl <;> exact absurd e (by decide)
 | cons t l' =>
   cases ho:t.or
   ·exact⟨dQ,xC t lo++(yK l' lo++[v]),by simp[yK,bL,ho],.inr (.inr (.inl rfl)),fun _=>⟨t,l',rfl,ho⟩⟩
   ·exact⟨Q8,xC t lo++(yK l' lo++[v]),by simp[yK,bL,ho],.inr (.inr (.inr rfl)),fun e=>absurd e (by decide)⟩
theorem zCB{low:List Nat}(hl4:∀d∈low,d<4)(lo:Bool){n:Nat}(d D:Int)(hv:v=cU\/v=kM)(hP:0<P.length)(hd:d+2<=D):∀(l:List yC) (k b:Nat) (left:Int) (nd:List zR) (tt p kx:Int) (x:GX),(∀t∈l,vM low t/\(xC t lo).length<=n)->Zu P b (yK l lo++[v])->l.length<k->p<=D->zHP low nd left kx x->kx≠1 ->
 ∃g r kx',l=g++r/\(∀t∈g,t.or=false)/\(∀t r',r=t::r'->t.or=true)/\kx'≠1/\(g≠[]->kx'=2)/\(g=[]->kx'=kx)/\Zu P (b+(yK g lo).length) (yK r lo++[v])/\zCQ low D nd tt (b+(yK g lo).length) (yK g lo).length g.length kx' (U9 x g) (mU P (fun q=>xB P n q d) dQ 2 k left ⟨(b,false),nd,tt,p⟩):=by
 intro l
 induction l with
 | nil =>
   intro k b left nd tt p kx x hl hA hk hp hx hkx;obtain⟨k,rfl⟩:∃j,k=j+1:=⟨k-1,by simp at hk;omega⟩;refine⟨[],[],kx,rfl,fun t ht=>(by cases ht),fun t r' e=>(by cases e),hkx,fun e=>absurd rfl e,fun _=>rfl,hA,left,[],p,?_,hp,by rw[ms];exact hx,Y5.nil _ _ _⟩;rw[fY hA.1 (fun _=>by rcases hv with rfl|rfl <;> decide)];simp[yK]
 | cons t l ih =>
   intro k b left nd tt p kx x hl hA hk hp hx hkx;obtain⟨k,rfl⟩:∃j,k=j+1:=⟨k-1,by simp at hk;omega⟩;have ht:=hl t (by simp);cases ho:t.or
   ·have e:yK (t::l) lo++[v]=dQ::(xC t lo++(yK l lo++[v])):=by simp[yK,bL,ho]
    have hA':=hA;rw[e]at hA';obtain⟨h0,h1⟩:=hA';obtain⟨v',r',e',hv',-⟩:=YW (l:=l) (lo:=lo) hv
    have h2:Zu P (b+1) (xC t lo++[v']):=by
     rw[e',show xC t lo++v'::r'=(xC t lo++[v'])++r' by simp]at h1;exact h1.app.1
    obtain⟨kt,hkt,i,E,p',hy,hp',hG,hE⟩:=YP hl4 ht.1 lo (n:=n) nd tt p d D hv' h2 ht.2 hP hp hd;have h3:=h1.app.2;have hJ:zHP low (nd++E++[⟨2,left,i,[],[],[],0⟩]) (((nd++E).length:Nat):Int) 2 (zCC x (tV t)):=fun A hO=>hO.and _ _ kx _ _ kt _ (hO.ext _ _ _ _ _ (hx A hO)) (hG A hO) hkx (by omega);obtain⟨g,r,kx',e1,e2,e3,e4,e5,e6,e7,i',E',p2,hy2,hp2,hG2,hE2⟩:=ih k (b+1+(xC t lo).length) (((nd++E).length:Nat):Int) (nd++E++[⟨2,left,i,[],[],[],0⟩]) (tt+1) p' 2 (zCC x (tV t)) (fun t' h'=>hl t' (mt _ h')) h3 (by simp at hk;omega) hp' hJ (by decide)
    have el:b+1+(xC t lo).length+(yK g lo).length=b+(yK (t::g) lo).length:=by
     simp[yK,bL,ho];omega
    rw[el]at e7 hy2;refine⟨t::g,r,kx',by rw[e1];rfl,fun t' h' => ?_,e3,e4,fun _=>?_,fun e=>(by cases e),e7,i',E++[⟨2,left,i,[],[],[],0⟩]++E',p2,?_,hp2,?_,?_⟩
    ·rcases l6.1 h' with rfl|h'
     ·exact ho
     ·exact e2 t' h'
    ·by_cases hg:g=[]
     ·exact e6 hg
     ·exact e5 hg
    ·rw[DG h0 (by decide) hy]
     simp only[GS.add];rw[hy2];exact DU rfl (by simp) (by simp only[p9];omega)
    ·rw[<-pr,<-pr];exact hG2
    ·have b1:=Zm hx
     have b2:=Zm hG;refine(hE.app (Y5.two (.inr rfl) ⟨b1.1,by rw[tm];omega⟩ b2) (j1 _)).app (by rw[<-pr];exact hE2) ?_;have:(yK (t::g) lo).length=1+(xC t lo).length+(yK g lo).length:=by simp[yK,bL,ho];omega
     omega
   ·have e:yK (t::l) lo++[v]=Q8::(xC t lo++(yK l lo++[v])):=by simp[yK,bL,ho]
    have hA':=hA;rw[e]at hA';refine⟨[],t::l,kx,rfl,fun t ht=>(by cases ht),fun t' r' e=>(by cases e;exact ho),hkx,fun e=>absurd rfl e,fun _=>rfl,hA,left,[],p,?_,hp,by rw[ms];exact hx,Y5.nil _ _ _⟩;rw[fY hA'.1 (fun _=>by decide)];simp[yK]
def Jn:Option GX->GX->GX
 | none,c=>c
 | some a,c=>orX a c
def Jv:Option GX->GX->List yC->GX
 | acc,c,[]=>Jn acc c
 | acc,c,t::r=>if t.or=true then Jv (some (Jn acc c)) (tV t) r else Jv acc (zCC c (tV t)) r
def zKP(x:GX):List yC->GX
 | []=>x
 | t::r=>Jv (some x) (tV t) r
theorem Ju(g:List yC):∀(acc:Option GX) (c:GX) (r:List yC),(∀t∈g,t.or=false)->(∀t r',r=t::r'->t.or=true)->Jv acc c (g++r)=zKP (Jn acc (U9 c g)) r:=by
 induction g with
 | nil =>
   intro acc c r _ hr
   cases r with
   | nil=>rfl
   | cons t r=>rw[da,Jv,tl (hr t r rfl)];rfl
 | cons t g ih =>
   intro acc c r hg hr;rw[cd,Jv,tb (by rw[hg t (by simp)];decide),ih _ _ _ (fun t' h'=>hg t' (mt _ h')) hr];rfl
theorem YU{low:List Nat}(hl4:∀d∈low,d<4)(lo:Bool){n:Nat}(d D:Int)(hv:v=cU\/v=kM)(hP:0<P.length)(hd:d+2<=D)(t:yC)(l:List yC)(b:Nat)(nd:List zR)(tt p:Int)(hl:∀q∈t::l,vM low q/\(xC q lo).length<=n)(hA:Zu P b (xC t lo++(yK l lo++[v])))(hk:l.length<P.length)(hp:p<=D) :
 ∃g r kx',l=g++r/\(∀t∈g,t.or=false)/\(∀t r',r=t::r'->t.or=true)/\(g≠[]->kx'=2)/\(g=[]->3<=kx')/\Zu P (b+(xC t lo).length+(yK g lo).length) (yK r lo++[v])/\zCQ low D nd tt (b+(xC t lo).length+(yK g lo).length) ((xC t lo).length+(yK g lo).length) (g.length+1) kx' (U9 (tV t) g) (cG P (xB P n) ⟨(b,false),nd,tt,p⟩ d):=by
 obtain⟨v',r',e',hv',-⟩:=YW (l:=l) (lo:=lo) hv
 have h2:Zu P b (xC t lo++[v']):=by
  have hA':=hA;rw[e',show xC t lo++v'::r'=(xC t lo++[v'])++r' by simp]at hA';exact hA'.app.1
 have ht:=hl t (by simp);obtain⟨kt,hkt,i,E,p',hy,hp',hG,hE⟩:=YP hl4 ht.1 lo (n:=n) nd tt p d D hv' h2 ht.2 hP hp hd;obtain⟨g,r,kx',e1,e2,e3,e4,e5,e6,e7,i',E',p2,hy2,hp2,hG2,hE2⟩:=zCB hl4 lo (n:=n) d D hv hP hd l P.length (b+(xC t lo).length) i (nd++E) (tt+1) p' kt (tV t) (fun t' h'=>hl t' (mt _ h')) hA.app.2 hk hp' hG (by omega);refine⟨g,r,kx',e1,e2,e3,e5,fun hg=>by rw[e6 hg];exact hkt,e7,i',E++E',p2,?_,hp2,by rw[<-pr];exact hG2,hE.app hE2 (j1 _)⟩
 ·unfold cG
  rw[hy];simp only;rw[hy2];exact DU rfl (by simp) (by omega)
theorem zEH{low:List Nat}(hl4:∀d∈low,d<4)(lo:Bool){n:Nat}(d D:Int)(hv:v=cU\/v=kM)(hP:0<P.length)(hd:d+2<=D):∀(m:Nat) (l:List yC) (k b:Nat) (left:Int) (nd:List zR) (tt p kx:Int) (x:GX),l.length<=m->(∀t r',l=t::r'->t.or=true)->(∀t∈l,vM low t/\(xC t lo).length<=n)->Zu P b (yK l lo++[v])->l.length<k->l.length<P.length->p<=D->zHP low nd left kx x ->
 ∃kx',(l≠[]->kx'=1)/\(l=[]->kx'=kx)/\zCQ low D nd tt (b+(yK l lo).length) (yK l lo).length l.length kx' (zKP x l) (mU P (fun q=>cG P (xB P n) q d) Q8 1 k left ⟨(b,false),nd,tt,p⟩):=by
 intro m
 induction m with
 | zero =>
   intro l k b left nd tt p kx x hm ho hl hA hk hkP hp hx;obtain rfl:l=[]:=List.length_eq_zero_iff.1 (by omega);obtain⟨k,rfl⟩:∃j,k=j+1:=⟨k-1,by simp at hk;omega⟩;refine⟨kx,fun e=>absurd rfl e,fun _=>rfl,left,[],p,?_,hp,by rw[ms];exact hx,Y5.nil _ _ _⟩;rw[fY hA.1 (fun _=>by rcases hv with rfl|rfl <;> decide)];simp[yK]
 | succ m ih =>
   intro l k b left nd tt p kx x hm ho hl hA hk hkP hp hx;obtain⟨k,rfl⟩:∃j,k=j+1:=⟨k-1,by omega⟩
   cases l with
   | nil =>
     refine⟨kx,fun e=>absurd rfl e,fun _=>rfl,left,[],p,?_,hp,by rw[ms];exact hx,Y5.nil _ _ _⟩;rw[fY hA.1 (fun _=>by rcases hv with rfl|rfl <;> decide)];simp[yK]
   | cons t l =>
     have hto:=ho t l rfl;have e:yK (t::l) lo++[v]=Q8::(xC t lo++(yK l lo++[v])):=by simp[yK,bL,hto]
     have hA':=hA;rw[e]at hA';obtain⟨h0,h1⟩:=hA';obtain⟨g,r,kg,e1,e2,e3,e5,e6,e7,i,E,p',hy,hp',hG,hE⟩:=YU hl4 lo (n:=n) d D hv hP hd t l (b+1) nd tt p hl h1 (by simp at hkP;omega) hp;have hJ:zHP low (nd++E++[⟨1,left,i,[],[],[],0⟩]) (((nd++E).length:Nat):Int) 1 (orX x (U9 (tV t) g)):=fun A hO=>hO.or _ _ kx _ _ kg _ (hO.ext _ _ _ _ _ (hx A hO)) (hG A hO);have hr:r.length<=l.length:=by rw[e1,tm];omega
     obtain⟨kx',f1,f2,i',E',p2,hy2,hp2,hG2,hE2⟩:=ih r k _ (((nd++E).length:Nat):Int) (nd++E++[⟨1,left,i,[],[],[],0⟩]) (tt+(g.length+1)) p' 1 (orX x (U9 (tV t) g)) (by simp at hm;omega) e3 (fun t' h'=>hl t' (by rw[e1];simp[h'])) e7 (by simp at hk;omega) (by simp at hkP;omega) hp' hJ
     have el:b+1+(xC t lo).length+(yK g lo).length+(yK r lo).length=b+(yK (t::l) lo).length:=by
      rw[e1];simp[yK,bL,hto];omega
     rw[el]at hy2;refine⟨kx',fun _=>?_,fun e=>(by cases e),i',E++[⟨1,left,i,[],[],[],0⟩]++E',p2,?_,hp2,?_,?_⟩
     ·by_cases hr0:r=[]
      ·exact f2 hr0
      ·exact f1 hr0
     ·rw[DG h0 (by decide) hy]
      simp only[GS.add];rw[hy2];exact DU rfl (by simp) (by rw[e1];simp only[p9,tm];omega)
     ·have eo:zKP x (t::l)=zKP (orX x (U9 (tV t) g)) r:=by
       show Jv (some x) (tV t) l=_;rw[e1,Ju g _ _ _ e2 e3];rfl
      rw[eo,<-pr,<-pr];exact hG2
     ·have b1:=Zm hx
      have b2:=Zm hG;refine(hE.app (Y5.two (.inl rfl) ⟨b1.1,by rw[tm];omega⟩ b2) (j1 _)).app (by rw[<-pr];exact hE2) ?_;have:(yK (t::l) lo).length=1+(xC t lo).length+((yK g lo).length+(yK r lo).length):=by rw[e1];simp[yK,bL,hto];omega
      omega
theorem UA{low:List Nat}(hl4:∀d∈low,d<4)(lo:Bool){n:Nat}(d D:Int)(hv:v=cU\/v=kM)(hP:0<P.length)(hd:d+2<=D)(t:yC)(l:List yC)(b:Nat)(nd:List zR)(tt p:Int)(hl:∀q∈t::l,vM low q/\(xC q lo).length<=n)(hA:Zu P b (xC t lo++yK l lo++[v]))(hk:l.length<P.length)(hp:p<=D) :
 ∃k,(k=1\/k=2 ↔ l≠[])/\zCQ low D nd tt (b+(xC t lo++yK l lo).length) (xC t lo++yK l lo).length (l.length+1) k (Jv none (tV t) l) (ZT P (xB P n) ⟨(b,false),nd,tt,p⟩ d):=by
 rw[pr]at hA;obtain⟨g,r,kg,e1,e2,e3,e5,e6,e7,i,E,p',hy,hp',hG,hE⟩:=YU hl4 lo (n:=n) d D hv hP hd t l b nd tt p hl hA hk hp;have hr:r.length<=l.length:=by rw[e1,tm];omega
 obtain⟨kx',f1,f2,i',E',p2,hy2,hp2,hG2,hE2⟩:=zEH hl4 lo (n:=n) d D hv hP hd r.length r P.length _ i (nd++E) (tt+(g.length+1)) p' kg (U9 (tV t) g) (j1 _) e3 (fun t' h'=>hl t' (by rw[e1];simp[h'])) e7 (by omega) (by omega) hp' hG
 have el:b+(xC t lo).length+(yK g lo).length+(yK r lo).length=b+(xC t lo++yK l lo).length:=by
  rw[e1];simp[yK];omega
 rw[el]at hy2;refine⟨kx',?_,i',E++E',p2,?_,hp2,?_,hE.app hE2 (by rw[e1];simp[yK];omega)⟩
 ·by_cases hr0:r=[]
  ·have k1:=f2 hr0
   by_cases hg0:g=[]
   ·have:=e6 hg0
    rw[e1,hr0,hg0];constructor
    ·intro h;omega
    ·intro h;exact absurd rfl h
   ·have:=e5 hg0
    rw[e1,hr0];constructor
    ·intro _ h;exact hg0 (by simpa using h)
    ·intro _;omega
  ·have:=f1 hr0
   rw[e1];constructor
   ·intro _ h;exact hr0 (List.append_eq_nil_iff.1 h).2
   ·intro _;omega
 ·unfold ZT
  rw[hy];simp only;rw[hy2];exact DU rfl (by simp) (by rw[e1];simp only[tm];omega)
 ·have eo:Jv none (tV t) l=zKP (U9 (tV t) g) r:=by rw[e1,Ju g _ _ _ e2 e3];rfl
  rw[eo,<-pr];exact hG2
variable {P:List PT}
theorem qe(ts:List yC)(lo:Bool):∀(l:List yC) (k:Nat),0<k->ts.drop k=l->((List.range l.length).flatMap fun j=>kU (k+j) (ts.getD (k+j) eW)++xC (ts.getD (k+j) eW) lo)=yK l lo:=by
 intro l
 induction l with
 | nil=>intro k _ _;rfl
 | cons q r ih =>
   intro k hk hd
   have zLL:k<ts.length:=by
    rcases me k ts.length with h|h
    ·exact h
    ·rw[ph h]at hd;cases hd
   rw[pq zLL]at hd;injection hd with h1 h2
   have hg:ts.getD k eW=q:=by simp[List.getD,zLL,h1]
   rw[p9,List.range_succ_eq_map,bi,List.flatMap_map];have hi:=ih (k+1) (by omega) h2
   have e:((List.range r.length).flatMap fun j=>kU (k+(j+1)) (ts.getD (k+(j+1)) eW)++xC (ts.getD (k+(j+1)) eW) lo)=yK r lo:=by
    rw[<-hi];congr 1;funext j;rw[show k+(j+1)=k+1+j by omega]
   show (kU (k+0) (ts.getD (k+0) eW)++xC (ts.getD (k+0) eW) lo)++((List.range r.length).flatMap fun j=>kU (k+(j+1)) (ts.getD (k+(j+1)) eW)++xC (ts.getD (k+(j+1)) eW) lo)=_;rw[e,ld,hg];have hs:kU k q=bL q:=by unfold kU bL;rw[tb (by omega)];rfl
   simp[yK,hs]
theorem zDL:jK (t::l) lo (t::l).length=xC t lo++yK l lo:=by
 unfold jK;rw[p9,List.range_succ_eq_map,bi,List.flatMap_map];have h:=qe (t::l) lo l 1 (by decide) rfl
 have e:((List.range l.length).flatMap fun j=>kU (j+1) ((t::l).getD (j+1) eW)++xC ((t::l).getD (j+1) eW) lo)=yK l lo:=by
  rw[<-h];congr 1;funext j;rw[Nat.add_comm]
 show (kU 0 t++xC t lo)++((List.range l.length).flatMap fun j=>kU (j+1) ((t::l).getD (j+1) eW)++xC ((t::l).getD (j+1) eW) lo)=_;rw[e];simp[kU]
theorem zDS(q:yC)(l:List yC):q∈l->(xC q lo).length<=(yK l lo).length:=by
 induction l with
 | nil=>intro h;cases h
 | cons a r ih =>
   intro hq;have e:yK (a::r) lo=bL a++xC a lo++yK r lo:=by simp[yK]
   rw[e,tm,tm];rcases l6.1 hq with rfl|hq
   ·omega
   ·have:=ih hq;omega
theorem zI1:∀q∈t::l,(xC q lo).length<=(xC t lo++yK l lo).length:=by
 intro q hq;rw[tm];rcases l6.1 hq with rfl|hq
 ·omega
 ·have:=zDS lo q l hq;omega
theorem qd:l.length<=(yK l lo).length:=by
 induction l with
 | nil=>simp
 | cons a r ih =>
   have e:yK (a::r) lo=bL a++xC a lo++yK r lo:=by simp[yK]
   have:0<(bL a).length:=by unfold bL;split <;> simp
   rw[e,tm,tm,p9];omega
def zB0(wh:Bool)(t:yC)(l:List yC):GX:=if wh=true then notX (decide (l≠[])) (Jv none (tV t) l) else Jv none (tV t) l
theorem zAZ{low:List Nat}(hl4:∀d∈low,d<4)(wh lo:Bool){t:yC}{l:List yC}(h:tM low (t::l))(hA:Zu P a (bF wh (t::l) lo++[cU]))(hlen:a+(bF wh (t::l) lo).length<P.length) :
 ∃root nd p k,qE P (a,false)=(root,⟨(a+(bF wh (t::l) lo).length,false),nd,(l.length:Int)+1,p⟩)/\p<=4/\zHP low nd root k (zB0 wh t l)/\(∀z∈nd,zGJ low z)/\dI nd/\nd.length<=(bF wh (t::l) lo).length:=by
 have hP:0<P.length:=by omega
 have htl:=zI1 t l lo;have hfw:=qd l lo;have hts:=zDL t l lo;unfold bF at hA hlen ⊢;rw[hts]at hA hlen ⊢;cases wh
 ·have hi:Y0 false lo (t::l).length=false:=rfl
  rw[hi]at hA hlen ⊢;have e:((if false=true then [[110,111,116]] else [])++(if false=true then [[40]] else [])++(xC t lo++yK l lo)++(if false=true then [[41]] else []):List Bs)=xC t lo++yK l lo:=by simp
  rw[e]at hA hlen ⊢;have hlen2:=hlen;rw[tm]at hlen2;obtain⟨k,-,i,E,p',hy,hp',hG,hE⟩:=UA hl4 lo (n:=P.length) 0 4 (.inl rfl) hP (by decide) t l a [] 0 0 (fun q hq=>⟨h.2.2 q hq,by have:=htl q hq;omega⟩) hA (by omega) (by decide);refine⟨i,E,p',k,?_,hp',hG,hE.1,hE.2.1 ZJ,hE.2.2⟩;show ZT P (xB P P.length) ⟨(a,false),[],0,0⟩ 0=_;rw[hy];simp
 ·cases hi:Y0 true lo (t::l).length
  ·rw[hi]at hA hlen
   have hl0:l=[]:=by
    unfold Y0 at hi;rw[my,bh]at hi;have:=of_decide_eq_false hi.2
    cases l with
    | nil=>rfl
    | cons x r=>exact absurd this (by simp)
   subst hl0;have e:((if true=true then [[110,111,116]] else [])++(if false=true then [[40]] else [])++(xC t lo++yK [] lo)++(if false=true then [[41]] else []):List Bs)=vK::xC t lo:=by simp[yK,vK]
   rw[e]at hA hlen ⊢;obtain⟨h0,hA1⟩:=hA;have hl1:(vK::xC t lo).length=(xC t lo).length+1:=rfl;rw[hl1]at hlen ⊢;obtain⟨n,hn⟩:∃k,P.length=k+1:=⟨P.length-1,by omega⟩;obtain⟨k,hk,i,E,p',hy,hp',hG,hE⟩:=YP hl4 (h.2.2 t (by simp)) lo (n:=n) [] 0 0 1 4 (.inl rfl) hA1 (by omega) hP (by decide) (by decide);have hend:=hA1.app.2.1
   have hf:xB P P.length ⟨(a,false),[],0,0⟩ 0=((((([]:List zR)++E).length:Nat):Int),⟨(a+1+(xC t lo).length,false),([]++E)++[⟨3,i,0,[],[],[],0⟩],0+1,p'⟩):=by
    rw[hn,ZM [] 0 0 0 h0 hy];rfl
   refine⟨((([]:List zR)++E).length:Nat),([]++E)++[⟨3,i,0,[],[],[],0⟩],p',3,?_,hp',fun A hO=>?_,fun z hz=>?_,Cu (hE.2.1 ZJ) (Zm hG).1 (Zm hG).2,by have:=hE.2.2;simp only[da,tm,p9,List.length_nil]at *;omega⟩
   ·show ZT P (xB P P.length) ⟨(a,false),[],0,0⟩ 0=_
    rw[K4 hP (Zw hP hf hend (fun _=>by decide)) hend (fun _=>by decide)];rw[show a+1+(xC t lo).length=a+((xC t lo).length+1) by omega];rfl
   ·have:=hO.not _ _ _ _ (hG A hO)
    rw[tu (by omega)]at this;exact this
   ·rcases pt.1 hz with hz|hz
    ·exact hE.1 z hz
    ·rw[pu.1 hz];exact .inl (.inr (.inr rfl))
  ·rw[hi]at hA hlen
   have e:((if true=true then [[110,111,116]] else [])++(if true=true then [[40]] else [])++(xC t lo++yK l lo)++(if true=true then [[41]] else []):List Bs)=vK::vO::(xC t lo++yK l lo++[kM]):=by simp[vK,vO,kM]
   rw[e]at hA hlen ⊢;obtain⟨h0,h1,hA1⟩:=hA;have hl1:(vK::vO::(xC t lo++yK l lo++[kM])).length=(xC t lo++yK l lo).length+3:=by simp only[p9,tm,List.length_nil]
   rw[hl1]at hlen ⊢;obtain⟨hA2,hA3⟩:=Zu.app (us:=[cU]) (ws:=xC t lo++yK l lo++[kM]) hA1;have hsh:=hA2.app.2.1;have hend:=hA3.1;rw[show a+1+1+(xC t lo++yK l lo++[kM]).length=a+((xC t lo++yK l lo).length+3) by simp only[p9,tm,List.length_nil];omega]at hend;obtain⟨n,hn⟩:∃k,P.length=k+1+1:=⟨P.length-2,by omega⟩;have hlen2:=hlen;rw[tm]at hlen2;obtain⟨k,hk,i,E,p',hy,hp',hG,hE⟩:=UA hl4 lo (n:=n) 2 4 (.inr rfl) hP (by decide) t l (a+1+1) [] 0 0 (fun q hq=>⟨h.2.2 q hq,by have:=htl q hq;omega⟩) hA2 (by omega) (by decide);have ho:=Qa (n:=n) [] 0 0 1 h1 hy hsh
   have hf:xB P P.length ⟨(a,false),[],0,0⟩ 0=((((([]:List zR)++E).length:Nat):Int),⟨(a+1+1+(xC t lo++yK l lo).length+1,false),([]++E)++[⟨3,i,0,[],[],[],0⟩],0+((l.length:Int)+1),p'⟩):=by
    rw[hn,ZM [] 0 0 0 h0 ho];rfl
   rw[show a+1+1+(xC t lo++yK l lo).length+1=a+((xC t lo++yK l lo).length+3) by omega]at hf;refine⟨((([]:List zR)++E).length:Nat),([]++E)++[⟨3,i,0,[],[],[],0⟩],p',3,?_,hp',fun A hO=>?_,fun z hz=>?_,Cu (hE.2.1 ZJ) (Zm hG).1 (Zm hG).2,by have:=hE.2.2;simp only[da,tm,p9,List.length_nil]at *;omega⟩
   ·show ZT P (xB P P.length) ⟨(a,false),[],0,0⟩ 0=_
    rw[K4 hP (Zw hP hf hend (fun _=>by decide)) hend (fun _=>by decide)];rw[Int.zero_add]
   ·have:=hO.not _ _ _ _ (hG A hO)
    rw[decide_eq_decide.2 hk]at this;exact this
   ·rcases pt.1 hz with hz|hz
    ·exact hE.1 z hz
    ·rw[pu.1 hz];exact .inl (.inr (.inr rfl))
theorem zEQ(N:List zR)(x:zR)(E:List zR):pP (N++[x]++E) N.length=x:=by
 unfold pP;simp[List.getD]
theorem YE(i:Nat):(yD i).isEmpty=false:=by unfold yD xM;split <;> rfl
theorem zFL(acc:Option GX)(c:GX):Jv acc c []=Jn acc c:=rfl
theorem zB2(acc:Option GX)(c:GX)(t:yC)(r:List yC):Jv acc c (t::r)=if t.or=true then Jv (some (Jn acc c)) (tV t) r else Jv acc (zCC c (tV t)) r:=rfl
end Go.Proofs.YtnbpdffdnphbeabGreatDoor
