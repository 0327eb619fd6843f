import Derived.Test.YtnbpdffdnphbeabGreatDoorPItoa
namespace Go.Proofs.YtnbpdffdnphbeabGreatDoor
variable{v w:Bs}{k i:Int}{N:List zM}{m n a:Nat}(t:zX)(l:List zX)(lo:Bool)
def tZ(t:zX):zM :=
 if t.kind=0 then ⟨4,0,0,[],[],[],0⟩ else if t.kind=1 then ⟨6,0,0,yG t.x.toNat,[],[],0⟩ else if t.kind=2 then ⟨5,0,0,xG 99 t.x.toNat,[],[],0⟩ else
 if t.kind=3 then ⟨7,0,0,yG t.x.toNat,nC t.mark.toNat,[],t.n⟩ else ⟨7,0,0,yG t.x.toNat,nC t.mark.toNat,yG t.y.toNat,0⟩
theorem wM:4<=(tZ t).kind:=by
 unfold tZ;split
 ·simp
 ·split
  ·simp
  ·split
   ·simp
   ·split <;> simp
def Cz(v:Bs):Prop:=v=lW\/v=uV\/v=tP\/v=rU
theorem Cz.cmp(h:Cz v):gO.contains v=false:=by rcases h with rfl|rfl|rfl|rfl <;> decide
theorem K6{k:Nat}(hk:k<6):gO.contains (nC k)=true/\yC (nC k)=4/\(nC k).isEmpty=false:=by
 have h:k=0\/k=1\/k=2\/k=3\/k=4\/k=5:=by omega
 rcases h with rfl|rfl|rfl|rfl|rfl|rfl <;> decide
variable {P:List PT}
theorem Gk{k:Nat}(hk:k<6)(h:At P a (nC k)):vE P (a,false)=(nC k,(a+1,false)):=by
 obtain⟨h1,h2,-⟩:=K6 hk;unfold vE;simp only[h.2.1,h1,mO h h2]
theorem zC4(h:At P a v)(hv:gO.contains v=false):vE P (a,false)=([],(a,false)):=by
 unfold vE;simp only[h.2.1,hv]
theorem UP(h:At P a w)(hk:yC w=2)(h2:At P (a+1) v)(hv:gO.contains v=false):vH P (a,false)=(⟨6,0,0,w,[],[],0⟩,(a+1,false)):=by
 unfold vH;simp only[qF h [97,108,119,97,121,115] (fun k=>absurd (hk.symm.trans k) (by decide)),qF h [104,97,115] (fun k=>absurd (hk.symm.trans k) (by decide)),pM h hk,zC4 h2 hv,List.isEmpty_nil]
theorem CQ{n:Bs}(h:At P a w)(hk:yC w=2)(hm:m<6)(h2:At P (a+1) (nC m))(h3:At P (a+1+1) n)(hn:yC n=3):vH P (a,false)=(⟨7,0,0,w,nC m,[],qM n⟩,(a+1+1+1,false)):=by
 unfold vH;simp only[qF h [97,108,119,97,121,115] (fun k=>absurd (hk.symm.trans k) (by decide)),qF h [104,97,115] (fun k=>absurd (hk.symm.trans k) (by decide)),pM h hk,Gk hm h2,(K6 hm).2.2,X1 h3 hn,fP h3 hn]
theorem CN{n:Bs}(h:At P a w)(hk:yC w=2)(hm:m<6)(h2:At P (a+1) (nC m))(h3:At P (a+1+1) n)(hn:yC n=2):vH P (a,false)=(⟨7,0,0,w,nC m,n,0⟩,(a+1+1+1,false)):=by
 unfold vH;simp only[qF h [97,108,119,97,121,115] (fun k=>absurd (hk.symm.trans k) (by decide)),qF h [104,97,115] (fun k=>absurd (hk.symm.trans k) (by decide)),pM h hk,Gk hm h2,(K6 hm).2.2,Up h3 (by rw[hn];decide),pM h3 hn]
theorem YQ{low:List Nat}(hl4:∀d∈low,d<4){t:zX}(h:xY low t)(hv:Cz v)(hA:sP P a (uD t++[v])):(∃w r,uD t=w::r/\(yC w=4->w≠xR/\w≠xQ))/\vH P (a,false)=(tZ t,(a+(uD t).length,false)):=by
 have nk:∀w:Bs,yC w=2->yC w=4->w≠xR/\w≠xQ:=fun w h1 h2=>absurd (h1.symm.trans h2) (by decide);rcases h with h|⟨h,x1,x2⟩|⟨h,d,hd,hx⟩|⟨h,⟨x1,x2⟩,⟨y1,y2⟩,⟨m1,m2⟩,n1,n2⟩
 ·have e1:uD t=[rW]:=by unfold uD;rw[tg h]
  have e2:tZ t=⟨4,0,0,[],[],[],0⟩:=by unfold tZ;rw[tg h]
  rw[e1]at hA ⊢;rw[e2];exact⟨⟨_,_,rfl,fun _=>by decide⟩,CS hA.1⟩
 ·have e1:uD t=[yG t.x.toNat]:=by unfold uD;rw[t7 (by omega),tg h]
  have e2:tZ t=⟨6,0,0,yG t.x.toNat,[],[],0⟩:=by unfold tZ;rw[t7 (by omega),tg h]
  have hk:yC (yG t.x.toNat)=2:=pT (by omega);rw[e1]at hA ⊢;rw[e2];exact⟨⟨_,_,rfl,nk _ hk⟩,UP hA.1 hk hA.2.1 hv.cmp⟩
 ·have e1:uD t=[nY,xG 99 t.x.toNat]:=by unfold uD;rw[t7 (by omega),t7 (by omega),tg h]
  have e2:tZ t=⟨5,0,0,xG 99 t.x.toNat,[],[],0⟩:=by unfold tZ;rw[t7 (by omega),t7 (by omega),tg h]
  have:=hl4 d hd;have hk:yC (xG 99 t.x.toNat)=2:=tN (.inr (.inr (.inl rfl))) (by omega);rw[e1]at hA ⊢;rw[e2];exact⟨⟨_,_,rfl,fun _=>by decide⟩,CR hA.1 hA.2.1 hk⟩
 ·have hk:yC (yG t.x.toNat)=2:=pT (by omega)
  have hk2:yC (yG t.y.toNat)=2:=pT (by omega);rcases h with h|h
  ·have e1:uD t=[yG t.x.toNat,nC t.mark.toNat,Lib.itoa t.n]:=by unfold uD;rw[t7 (by omega),t7 (by omega),t7 (by omega),tg h]
   have e2:tZ t=⟨7,0,0,yG t.x.toNat,nC t.mark.toNat,[],t.n⟩:=by unfold tZ;rw[t7 (by omega),t7 (by omega),t7 (by omega),tg h]
   obtain⟨k1,k2⟩:=dL n1 n2;rw[e1]at hA ⊢;rw[e2];refine⟨⟨_,_,rfl,nk _ hk⟩,?_⟩;rw[CQ hA.1 hk (by omega) hA.2.1 hA.2.2.1 k1,k2];rfl
  ·have e1:uD t=[yG t.x.toNat,nC t.mark.toNat,yG t.y.toNat]:=by unfold uD;rw[t7 (by omega),t7 (by omega),t7 (by omega),t7 (by omega)]
   have e2:tZ t=⟨7,0,0,yG t.x.toNat,nC t.mark.toNat,yG t.y.toNat,0⟩:=by unfold tZ;rw[t7 (by omega),t7 (by omega),t7 (by omega),t7 (by omega)]
   rw[e1]at hA ⊢;rw[e2];refine⟨⟨_,_,rfl,nk _ hk⟩,?_⟩;rw[CN hA.1 hk (by omega) hA.2.1 hA.2.2.1 hk2];rfl
theorem ZM{b:Nat}{nd':List zM}{t' p':Int}(nd:List zM)(t p d:Int)(h:At P a xQ)(hf:aT P (yU P n) ⟨(a+1,false),nd,t,p⟩ (d+1)=(i,⟨(b,false),nd',t',p'⟩))(hs:At P b uV):yU P (n+1) ⟨(a,false),nd,t,p⟩ d=(i,⟨(b+1,false),nd',t',p'⟩):=by
 rw[yU];simp only[qF h xR (fun _=>by decide),mO h (by decide),GS.to,hf,bX hs (by decide)]
def Vw(t:zX)(lo:Bool):List Bs:=(if (lo&&t.pair)=true then [xQ] else [])++uD t++(if (lo&&t.pair)=true then [uV] else [])
theorem yb:yZ t lo=(if t.not=true then [xR] else [])++Vw t lo:=by
 unfold yZ Vw;rw[<-pd,<-pd];rfl
theorem U6{low:List Nat}(hl4:∀d∈low,d<4){t:zX}(h:xY low t)(lo:Bool)(nd:List zM)(tt p d D:Int)(hv:Cz v)(hA:sP P a (Vw t lo++[v]))(hn:(Vw t lo).length<=n)(hP:0<P.length)(hp:p<=D)(hd:d+1<=D) :
 ∃p',p'<=D/\yU P n ⟨(a,false),nd,tt,p⟩ d=(((nd.length:Nat):Int),⟨(a+(Vw t lo).length,false),nd++[tZ t],tt+1,p'⟩):=by
 have hc:=(ZS t).1;cases hb:(lo&&t.pair)
 ·have e:Vw t lo=uD t:=by simp[Vw,hb]
  rw[e]at hA hn ⊢;obtain⟨⟨w,r,ew,hw⟩,ht⟩:=YQ hl4 h hv hA;obtain⟨n,rfl⟩:∃k,n=k+1:=⟨n-1,by omega⟩;have h0:At P a w:=by rw[ew]at hA;exact hA.1
  exact⟨dp p d,by unfold dp;split <;> omega,ZL nd tt p d h0 hw ht⟩
 ·have e:Vw t lo=xQ::(uD t++[uV]):=by simp[Vw,hb]
  rw[e]at hA hn ⊢;obtain⟨h0,h1⟩:=hA;obtain⟨h2,-⟩:=sP.app (us:=[v]) (ws:=uD t++[uV]) h1;obtain⟨⟨w,r,ew,hw⟩,ht⟩:=YQ hl4 h (v:=uV) (.inr (.inl rfl)) h2;have hs:=h2.app.2.1;have hl:(xQ::(uD t++[uV])).length=(uD t).length+2:=by simp
  rw[hl]at hn ⊢;obtain⟨n,rfl⟩:∃k,n=k+1+1:=⟨n-2,by omega⟩;have h0':At P (a+1) w:=by rw[ew]at h2;exact h2.1
  have hf:=ZL (n:=n) nd tt p (d+1) h0' hw ht;refine⟨dp p (d+1),by unfold dp;split <;> omega,?_⟩;rw[ZM nd tt p d h0 (XG hP (sU hP hf hs (fun _=>by decide)) hs (fun _=>by decide)) hs];rw[show a+1+(uD t).length+1=a+((uD t).length+2) by omega]
structure GA where
 α:Type
 core:zX->α
 andA:α->α->α
 orA:α->α->α
 notA:Bool->α->α
 J:List zM->Int->Int->α->Prop
structure GA.Ok(A:GA)(low:List Nat):Prop where
 ext:∀N E i k x,A.J N i k x->A.J (N++E) i k x
 core:∀N t,xY low t->A.J (N++[tZ t]) ((N.length:Nat):Int) (tZ t).kind (A.core t)
 and:∀N l kl x r kr y,A.J N l kl x->A.J N r kr y->kl≠1->kr≠1->A.J (N++[⟨2,l,r,[],[],[],0⟩]) ((N.length:Nat):Int) 2 (A.andA x y)
 or:∀N l kl x r kr y,A.J N l kl x->A.J N r kr y->A.J (N++[⟨1,l,r,[],[],[],0⟩]) ((N.length:Nat):Int) 1 (A.orA x y)
 not:∀N l kl x,A.J N l kl x->A.J (N++[⟨3,l,0,[],[],[],0⟩]) ((N.length:Nat):Int) 3 (A.notA (decide (kl=1\/kl=2)) x)
abbrev GX:=∀A:GA,A.α
def jO(t:zX):GX:=fun A=>if t.not=true then A.notA false (A.core t) else A.core t
def G1(x y:GX):GX:=fun A=>A.andA (x A) (y A)
def orX(x y:GX):GX:=fun A=>A.orA (x A) (y A)
def notX(b:Bool)(x:GX):GX:=fun A=>A.notA b (x A)
def zA5(low:List Nat)(N:List zM)(i k:Int)(x:GX):Prop:=∀A:GA,A.Ok low->A.J N i k (x A)
def kw(low:List Nat)(x:zM):Prop:=(x.kind=1\/x.kind=2\/x.kind=3)\/∃t,xY low t/\x=tZ t
def iI(low:List Nat)(nd E:List zM)(m:Nat):Prop:=(∀z∈E,kw low z)/\(pD nd->pD (nd++E))/\E.length<=m
theorem KZ{z:zM}(h:pD N)(h1:z.kind=1\/z.kind=2->0<=z.left/\z.left<N.length/\0<=z.right/\z.right<N.length)(h3:z.kind=3->0<=z.left/\z.left<N.length)(h4:¬z.kind=1->¬z.kind=2->¬z.kind=3->(4<=z.kind/\z.kind<=7)/\0<=z.num/\z.num<=9999):pD (N++[z]):=by
 intro a ha;rcases pf a N.length with h5|h5
 ·have e:qR (N++[z]) a=qR N a:=by unfold qR;rw[tu,tu,pm h5]
  rw[e];exact h a h5
 ·have e:a=N.length:=by rw[tb,pj]at ha;omega
  subst e;have e2:qR (N++[z]) N.length=z:=by unfold qR;simp[List.getD]
  rw[e2];exact⟨fun q=>h1 (.inl q),fun q=>h1 (.inr q),h3,h4⟩
theorem aL:pD []:=by intro a ha;exact absurd ha (by simp)
theorem yh{low:List Nat}{t:zX}(h:xY low t):(tZ t).kind<=7/\0<=(tZ t).num/\(tZ t).num<=9999:=by
 unfold tZ;rcases h with h0|⟨h0,-⟩|⟨h0,-⟩|⟨h0|h0,-,-,-,n1,n2⟩
 ·rw[tg h0];exact⟨show (4:Int)<=7 by decide,mp _,show (0:Int)<=9999 by decide⟩
 ·rw[t7 (by omega),tg h0];exact⟨show (6:Int)<=7 by decide,mp _,show (0:Int)<=9999 by decide⟩
 ·rw[t7 (by omega),t7 (by omega),tg h0];exact⟨show (5:Int)<=7 by decide,mp _,show (0:Int)<=9999 by decide⟩
 ·rw[t7 (by omega),t7 (by omega),t7 (by omega),tg h0];exact⟨show (7:Int)<=7 by decide,n1,n2⟩
 ·rw[t7 (by omega),t7 (by omega),t7 (by omega),t7 (by omega)];exact⟨show (7:Int)<=7 by decide,mp _,show (0:Int)<=9999 by decide⟩
theorem uu{low:List Nat}(h:pD N){t:zX}(ht:xY low t):pD (N++[tZ t]):=by
 have h1:=wM t;have h2:=yh ht;exact KZ h (fun q=>by omega) (fun q=>by omega) (fun _ _ _=>⟨⟨h1,h2.1⟩,h2.2⟩)
theorem KY(h:pD N)(h0:0<=i)(h1:i<N.length):pD (N++[⟨3,i,0,[],[],[],0⟩]) :=
 KZ h (fun q=>absurd q (show ¬((3:Int)=1\/(3:Int)=2) by decide)) (fun _=>⟨h0,h1⟩) (fun _ _ q=>absurd rfl q)
theorem zBP(h:pD N){l r:Int}(hk:k=1\/k=2)(l0:0<=l)(l1:l<N.length)(r0:0<=r)(r1:r<N.length):pD (N++[⟨k,l,r,[],[],[],0⟩]) :=
 KZ h (fun _=>⟨l0,l1,r0,r1⟩) (fun q=>absurd (show k=3 from q) (by omega)) (fun q1 q2 _=>absurd hk (fun h=>h.elim (fun h=>q1 h) (fun h=>q2 h)))
def bdA:GA:=⟨Unit,fun _=>(),fun _ _=>(),fun _ _=>(),fun _ _=>(),fun N i _ _=>0<=i/\i<N.length⟩
theorem zC8(low:List Nat):bdA.Ok low where
 ext:=fun N E i k x ⟨h0,h1⟩=>⟨h0,by rw[tb];omega⟩
 core:=fun N t _=>⟨by omega,by rw[tb,pj];omega⟩
 and:=fun N l kl x r kr y _ _ _ _=>⟨by omega,by rw[tb,pj];omega⟩
 or:=fun N l kl x r kr y _ _=>⟨by omega,by rw[tb,pj];omega⟩
 not:=fun N l kl x _=>⟨by omega,by rw[tb,pj];omega⟩
theorem sL{low:List Nat}{x:GX}(h:zA5 low N i k x):0<=i/\i<N.length:=h bdA (zC8 low)
theorem iI.nil(low:List Nat)(nd:List zM)(m:Nat):iI low nd [] m:=⟨fun z hz=>(by cases hz),fun h=>by rw[md];exact h,tq _⟩
theorem iI.app{low:List Nat}{nd E E':List zM}{m':Nat}(h:iI low nd E m)(h':iI low (nd++E) E' m')(hn:m+m'<=n):iI low nd (E++E') n:=by
 refine⟨fun z hz=>?_,fun hg=>by rw[<-pd];exact h'.2.1 (h.2.1 hg),by rw[tb];have:=h.2.2;have:=h'.2.2;omega⟩;rcases pt.1 hz with hz|hz
 ·exact h.1 z hz
 ·exact h'.1 z hz
theorem iI.two{low:List Nat}{nd:List zM}{l r:Int}(hk:k=1\/k=2)(hl:0<=l/\l<nd.length)(hr:0<=r/\r<nd.length):iI low nd [⟨k,l,r,[],[],[],0⟩] 1 :=
 ⟨fun z hz=>by rw[po.1 hz];exact .inl (hk.elim .inl fun q=>.inr (.inl q)),fun hg=>zBP hg hk hl.1 hl.2 hr.1 hr.2,j1 _⟩
theorem iI.not{low:List Nat}{nd:List zM}(hi:0<=i/\i<nd.length):iI low nd [⟨3,i,0,[],[],[],0⟩] 1 :=
 ⟨fun z hz=>by rw[po.1 hz];exact .inl (.inr (.inr rfl)),fun hg=>KY hg hi.1 hi.2,j1 _⟩
theorem iI.test{low:List Nat}{nd:List zM}{t:zX}(h:xY low t):iI low nd [tZ t] 1 :=
 ⟨fun z hz=>by rw[po.1 hz];exact .inr ⟨t,h,rfl⟩,fun hg=>uu hg h,j1 _⟩
theorem iI.mono{low:List Nat}{nd E:List zM}(h:iI low nd E m)(hn:m<=n):iI low nd E n:=⟨h.1,h.2.1,tr h.2.2 hn⟩
theorem U7:1<=(Vw t lo).length:=by
 have:=(ZS t).1;unfold Vw;split <;> simp <;> omega
def GQ(low:List Nat)(D:Int)(nd:List zM)(tt:Int)(b m:Nat)(c k:Int)(x:GX)(y:Int × GS):Prop:=∃i E p',y=(i,⟨(b,false),nd++E,tt+c,p'⟩)/\p'<=D/\zA5 low (nd++E) i k x/\iI low nd E m
theorem Uv{s s':St}{nd nd':List zM}{t t' p:Int}(h0:s=s')(h1:nd=nd')(h2:t=t'):((i,⟨s,nd,t,p⟩):Int × GS)=(i,⟨s',nd',t',p⟩):=by subst h0 h1 h2;rfl
theorem wD{low:List Nat}(hl4:∀d∈low,d<4){t:zX}(h:xY low t)(lo:Bool)(nd:List zM)(tt p d D:Int)(hv:Cz v)(hA:sP P a (yZ t lo++[v]))(hn:(yZ t lo).length<=n)(hP:0<P.length)(hp:p<=D)(hd:d+2<=D) :
 ∃k,3<=k/\GQ low D nd tt (a+(yZ t lo).length) (yZ t lo).length 1 k (jO t) (yU P n ⟨(a,false),nd,tt,p⟩ d):=by
 have e:=yb t lo;have hk:=wM t;cases hn':t.not
 ·rw[hn']at e
  have e':yZ t lo=Vw t lo:=e;rw[e']at hA hn ⊢;obtain⟨p',h1,h2⟩:=U6 hl4 h lo nd tt p d D hv hA hn hP hp (by omega);refine⟨(tZ t).kind,by omega,_,[tZ t],p',h2,h1,fun A hO=>?_,(iI.test h).mono (U7 t lo)⟩
  ·have ex:jO t A=A.core t:=by unfold jO;rw[hn'];rfl
   rw[ex];exact hO.core nd t h
 ·rw[hn']at e
  have e':yZ t lo=xR::Vw t lo:=e;rw[e']at hA hn ⊢;obtain⟨h0,hA1⟩:=hA;obtain⟨n,rfl⟩:∃k,n=k+1:=⟨n-1,by simp at hn;omega⟩;obtain⟨p',h1,h2⟩:=U6 hl4 h lo nd tt p (d+1) D hv hA1 (by simp at hn;omega) hP hp (by omega);refine⟨3,by decide,(((nd++[tZ t]).length:Nat):Int),[tZ t,⟨3,(nd.length:Nat),0,[],[],[],0⟩],p',?_,h1,fun A hO=>?_,(iI.test h).app (m':=1) (iI.not ⟨by omega,by rw[tb,pj];omega⟩) (by have:=U7 t lo;simp only[ty];omega)⟩
  ·rw[aO nd tt p d h0 h2]
   simp only[GS.add,pd,List.singleton_append,ty];rw[show a+1+(Vw t lo).length=a+((Vw t lo).length+1) by omega]
  ·have ex:jO t A=A.notA (decide ((tZ t).kind=1\/(tZ t).kind=2)) (A.core t):=by
    unfold jO;rw[hn',tm (by omega)];rfl
   rw[ex,show nd++[tZ t,(⟨3,(nd.length:Nat),0,[],[],[],0⟩:zM)]=(nd++[tZ t])++[⟨3,(nd.length:Nat),0,[],[],[],0⟩] by simp];exact hO.not _ _ _ _ (hO.core nd t h)
def mV(t:zX):List Bs:=if t.or=true then [rU] else [tP]
def yI(l:List zX)(lo:Bool):List Bs:=l.flatMap fun q=>mV q++yZ q lo
def J1(x:GX)(g:List zX):GX:=g.foldl (fun x t=>G1 x (jO t)) x
theorem wK{l:List zX}{lo:Bool}(hv:v=lW\/v=uV):∃v' r,yI l lo++[v]=v'::r/\Cz v'/\(v'=tP->∃t l',l=t::l'/\t.or=false):=by
 cases l with
 | nil =>
   refine⟨v,[],rfl,?_,fun e=>?_⟩
   ·rcases hv with rfl|rfl
    ·exact .inl rfl
    ·exact .inr (.inl rfl)
   ·rcases hv with rfl|rfl <;> exact absurd e (by decide)
 | cons t l' =>
   cases ho:t.or
   ·exact⟨tP,yZ t lo++(yI l' lo++[v]),by simp[yI,mV,ho],.inr (.inr (.inl rfl)),fun _=>⟨t,l',rfl,ho⟩⟩
   ·exact⟨rU,yZ t lo++(yI l' lo++[v]),by simp[yI,mV,ho],.inr (.inr (.inr rfl)),fun e=>absurd e (by decide)⟩
theorem G0{low:List Nat}(hl4:∀d∈low,d<4)(lo:Bool)(d D:Int)(hv:v=lW\/v=uV)(hP:0<P.length)(hd:d+2<=D):∀(l:List zX) (k b:Nat) (left:Int) (nd:List zM) (tt p kx:Int) (x:GX),(∀t∈l,xY low t/\(yZ t lo).length<=n)->sP P b (yI l lo++[v])->l.length<k->p<=D->zA5 low nd left kx x->kx≠1 ->
 ∃g r kx',l=g++r/\(∀t∈g,t.or=false)/\(∀t r',r=t::r'->t.or=true)/\kx'≠1/\(g≠[]->kx'=2)/\(g=[]->kx'=kx)/\sP P (b+(yI g lo).length) (yI r lo++[v])/\GQ low D nd tt (b+(yI g lo).length) (yI g lo).length g.length kx' (J1 x g) (pB P (fun q=>yU P n q d) tP 2 k left ⟨(b,false),nd,tt,p⟩):=by
 intro l
 induction l with
 | nil =>
   intro k b left nd tt p kx x hl hA hk hp hx hkx;obtain⟨k,rfl⟩:∃j,k=j+1:=⟨k-1,by simp at hk;omega⟩;refine⟨[],[],kx,rfl,fun t ht=>(by cases ht),fun t r' e=>(by cases e),hkx,fun e=>absurd rfl e,fun _=>rfl,hA,left,[],p,?_,hp,by rw[md];exact hx,iI.nil _ _ _⟩;rw[cM hA.1 (fun _=>by rcases hv with rfl|rfl <;> decide)];simp[yI]
 | cons t l ih =>
   intro k b left nd tt p kx x hl hA hk hp hx hkx;obtain⟨k,rfl⟩:∃j,k=j+1:=⟨k-1,by simp at hk;omega⟩;have ht:=hl t (by simp);cases ho:t.or
   ·have e:yI (t::l) lo++[v]=tP::(yZ t lo++(yI l lo++[v])):=by simp[yI,mV,ho]
    have hA':=hA;rw[e]at hA';obtain⟨h0,h1⟩:=hA';obtain⟨v',r',e',hv',-⟩:=wK (l:=l) (lo:=lo) hv
    have h2:sP P (b+1) (yZ t lo++[v']):=by
     rw[e',show yZ t lo++v'::r'=(yZ t lo++[v'])++r' by simp]at h1;exact h1.app.1
    obtain⟨kt,hkt,i,E,p',hy,hp',hG,hE⟩:=wD hl4 ht.1 lo (n:=n) nd tt p d D hv' h2 ht.2 hP hp hd;have h3:=h1.app.2;have hJ:zA5 low (nd++E++[⟨2,left,i,[],[],[],0⟩]) (((nd++E).length:Nat):Int) 2 (G1 x (jO t)):=fun A hO=>hO.and _ _ kx _ _ kt _ (hO.ext _ _ _ _ _ (hx A hO)) (hG A hO) hkx (by omega);obtain⟨g,r,kx',e1,e2,e3,e4,e5,e6,e7,i',E',p2,hy2,hp2,hG2,hE2⟩:=ih k (b+1+(yZ t lo).length) (((nd++E).length:Nat):Int) (nd++E++[⟨2,left,i,[],[],[],0⟩]) (tt+1) p' 2 (G1 x (jO t)) (fun t' h'=>hl t' (mc _ h')) h3 (by simp at hk;omega) hp' hJ (by decide)
    have el:b+1+(yZ t lo).length+(yI g lo).length=b+(yI (t::g) lo).length:=by
     simp[yI,mV,ho];omega
    rw[el]at e7 hy2;refine⟨t::g,r,kx',by rw[e1];rfl,fun t' h' => ?_,e3,e4,fun _=>?_,fun e=>(by cases e),e7,i',E++[⟨2,left,i,[],[],[],0⟩]++E',p2,?_,hp2,?_,?_⟩
    ·rcases l3.1 h' with rfl|h'
     ·exact ho
     ·exact e2 t' h'
    ·by_cases hg:g=[]
     ·exact e6 hg
     ·exact e5 hg
    ·rw[Ul h0 (by decide) hy]
     simp only[GS.add];rw[hy2];exact Uv rfl (by simp) (by simp only[ty];omega)
    ·rw[<-pd,<-pd];exact hG2
    ·have b1:=sL hx
     have b2:=sL hG;refine(hE.app (iI.two (.inr rfl) ⟨b1.1,by rw[tb];omega⟩ b2) (j1 _)).app (by rw[<-pd];exact hE2) ?_;have:(yI (t::g) lo).length=1+(yZ t lo).length+(yI g lo).length:=by simp[yI,mV,ho];omega
     omega
   ·have e:yI (t::l) lo++[v]=rU::(yZ t lo++(yI l lo++[v])):=by simp[yI,mV,ho]
    have hA':=hA;rw[e]at hA';refine⟨[],t::l,kx,rfl,fun t ht=>(by cases ht),fun t' r' e=>(by cases e;exact ho),hkx,fun e=>absurd rfl e,fun _=>rfl,hA,left,[],p,?_,hp,by rw[md];exact hx,iI.nil _ _ _⟩;rw[cM hA'.1 (fun _=>by decide)];simp[yI]
def YB:Option GX->GX->GX
 | none,c=>c
 | some a,c=>orX a c
def YI:Option GX->GX->List zX->GX
 | acc,c,[]=>YB acc c
 | acc,c,t::r=>if t.or=true then YI (some (YB acc c)) (jO t) r else YI acc (G1 c (jO t)) r
def zD7(x:GX):List zX->GX
 | []=>x
 | t::r=>YI (some x) (jO t) r
theorem YH(g:List zX):∀(acc:Option GX) (c:GX) (r:List zX),(∀t∈g,t.or=false)->(∀t r',r=t::r'->t.or=true)->YI acc c (g++r)=zD7 (YB acc (J1 c g)) r:=by
 induction g with
 | nil =>
   intro acc c r _ hr
   cases r with
   | nil=>rfl
   | cons t r=>rw[ci,YI,tg (hr t r rfl)];rfl
 | cons t g ih =>
   intro acc c r hg hr;rw[l9,YI,t7 (by rw[hg t (by simp)];decide),ih _ _ _ (fun t' h'=>hg t' (mc _ h')) hr];rfl
theorem wH{low:List Nat}(hl4:∀d∈low,d<4)(lo:Bool)(d D:Int)(hv:v=lW\/v=uV)(hP:0<P.length)(hd:d+2<=D)(t:zX)(l:List zX)(b:Nat)(nd:List zM)(tt p:Int)(hl:∀q∈t::l,xY low q/\(yZ q lo).length<=n)(hA:sP P b (yZ t lo++(yI l lo++[v])))(hk:l.length<P.length)(hp:p<=D) :
 ∃g r kx',l=g++r/\(∀t∈g,t.or=false)/\(∀t r',r=t::r'->t.or=true)/\(g≠[]->kx'=2)/\(g=[]->3<=kx')/\sP P (b+(yZ t lo).length+(yI g lo).length) (yI r lo++[v])/\GQ low D nd tt (b+(yZ t lo).length+(yI g lo).length) ((yZ t lo).length+(yI g lo).length) (g.length+1) kx' (J1 (jO t) g) (lN P (yU P n) ⟨(b,false),nd,tt,p⟩ d):=by
 obtain⟨v',r',e',hv',-⟩:=wK (l:=l) (lo:=lo) hv
 have h2:sP P b (yZ t lo++[v']):=by
  have hA':=hA;rw[e',show yZ t lo++v'::r'=(yZ t lo++[v'])++r' by simp]at hA';exact hA'.app.1
 have ht:=hl t (by simp);obtain⟨kt,hkt,i,E,p',hy,hp',hG,hE⟩:=wD hl4 ht.1 lo (n:=n) nd tt p d D hv' h2 ht.2 hP hp hd;obtain⟨g,r,kx',e1,e2,e3,e4,e5,e6,e7,i',E',p2,hy2,hp2,hG2,hE2⟩:=G0 hl4 lo (n:=n) d D hv hP hd l P.length (b+(yZ t lo).length) i (nd++E) (tt+1) p' kt (jO t) (fun t' h'=>hl t' (mc _ h')) hA.app.2 hk hp' hG (by omega);refine⟨g,r,kx',e1,e2,e3,e5,fun hg=>by rw[e6 hg];exact hkt,e7,i',E++E',p2,?_,hp2,by rw[<-pd];exact hG2,hE.app hE2 (j1 _)⟩
 ·unfold lN
  rw[hy];simp only;rw[hy2];exact Uv rfl (by simp) (by omega)
theorem xd{low:List Nat}(hl4:∀d∈low,d<4)(lo:Bool)(d D:Int)(hv:v=lW\/v=uV)(hP:0<P.length)(hd:d+2<=D):∀(m:Nat) (l:List zX) (k b:Nat) (left:Int) (nd:List zM) (tt p kx:Int) (x:GX),l.length<=m->(∀t r',l=t::r'->t.or=true)->(∀t∈l,xY low t/\(yZ t lo).length<=n)->sP P b (yI l lo++[v])->l.length<k->l.length<P.length->p<=D->zA5 low nd left kx x ->
 ∃kx',(l≠[]->kx'=1)/\(l=[]->kx'=kx)/\GQ low D nd tt (b+(yI l lo).length) (yI l lo).length l.length kx' (zD7 x l) (pB P (fun q=>lN P (yU P n) q d) rU 1 k left ⟨(b,false),nd,tt,p⟩):=by
 intro m
 induction m with
 | zero =>
   intro l k b left nd tt p kx x hm ho hl hA hk hkP hp hx;obtain rfl:l=[]:=List.length_eq_zero_iff.1 (by omega);obtain⟨k,rfl⟩:∃j,k=j+1:=⟨k-1,by simp at hk;omega⟩;refine⟨kx,fun e=>absurd rfl e,fun _=>rfl,left,[],p,?_,hp,by rw[md];exact hx,iI.nil _ _ _⟩;rw[cM hA.1 (fun _=>by rcases hv with rfl|rfl <;> decide)];simp[yI]
 | succ m ih =>
   intro l k b left nd tt p kx x hm ho hl hA hk hkP hp hx;obtain⟨k,rfl⟩:∃j,k=j+1:=⟨k-1,by omega⟩
   cases l with
   | nil =>
     refine⟨kx,fun e=>absurd rfl e,fun _=>rfl,left,[],p,?_,hp,by rw[md];exact hx,iI.nil _ _ _⟩;rw[cM hA.1 (fun _=>by rcases hv with rfl|rfl <;> decide)];simp[yI]
   | cons t l =>
     have hto:=ho t l rfl;have e:yI (t::l) lo++[v]=rU::(yZ t lo++(yI l lo++[v])):=by simp[yI,mV,hto]
     have hA':=hA;rw[e]at hA';obtain⟨h0,h1⟩:=hA';obtain⟨g,r,kg,e1,e2,e3,e5,e6,e7,i,E,p',hy,hp',hG,hE⟩:=wH hl4 lo (n:=n) d D hv hP hd t l (b+1) nd tt p hl h1 (by simp at hkP;omega) hp;have hJ:zA5 low (nd++E++[⟨1,left,i,[],[],[],0⟩]) (((nd++E).length:Nat):Int) 1 (orX x (J1 (jO t) g)):=fun A hO=>hO.or _ _ kx _ _ kg _ (hO.ext _ _ _ _ _ (hx A hO)) (hG A hO);have hr:r.length<=l.length:=by rw[e1,tb];omega
     obtain⟨kx',f1,f2,i',E',p2,hy2,hp2,hG2,hE2⟩:=ih r k _ (((nd++E).length:Nat):Int) (nd++E++[⟨1,left,i,[],[],[],0⟩]) (tt+(g.length+1)) p' 1 (orX x (J1 (jO t) g)) (by simp at hm;omega) e3 (fun t' h'=>hl t' (by rw[e1];simp[h'])) e7 (by simp at hk;omega) (by simp at hkP;omega) hp' hJ
     have el:b+1+(yZ t lo).length+(yI g lo).length+(yI r lo).length=b+(yI (t::l) lo).length:=by
      rw[e1];simp[yI,mV,hto];omega
     rw[el]at hy2;refine⟨kx',fun _=>?_,fun e=>(by cases e),i',E++[⟨1,left,i,[],[],[],0⟩]++E',p2,?_,hp2,?_,?_⟩
     ·by_cases hr0:r=[]
      ·exact f2 hr0
      ·exact f1 hr0
     ·rw[Ul h0 (by decide) hy]
      simp only[GS.add];rw[hy2];exact Uv rfl (by simp) (by rw[e1];simp only[ty,tb];omega)
     ·have eo:zD7 x (t::l)=zD7 (orX x (J1 (jO t) g)) r:=by
       show YI (some x) (jO t) l=_;rw[e1,YH g _ _ _ e2 e3];rfl
      rw[eo,<-pd,<-pd];exact hG2
     ·have b1:=sL hx
      have b2:=sL hG;refine(hE.app (iI.two (.inl rfl) ⟨b1.1,by rw[tb];omega⟩ b2) (j1 _)).app (by rw[<-pd];exact hE2) ?_;have:(yI (t::l) lo).length=1+(yZ t lo).length+((yI g lo).length+(yI r lo).length):=by rw[e1];simp[yI,mV,hto];omega
      omega
theorem J2{low:List Nat}(hl4:∀d∈low,d<4)(lo:Bool)(d D:Int)(hv:v=lW\/v=uV)(hP:0<P.length)(hd:d+2<=D)(t:zX)(l:List zX)(b:Nat)(nd:List zM)(tt p:Int)(hl:∀q∈t::l,xY low q/\(yZ q lo).length<=n)(hA:sP P b (yZ t lo++yI l lo++[v]))(hk:l.length<P.length)(hp:p<=D) :
 ∃k,(k=1\/k=2 ↔ l≠[])/\GQ low D nd tt (b+(yZ t lo++yI l lo).length) (yZ t lo++yI l lo).length (l.length+1) k (YI none (jO t) l) (aT P (yU P n) ⟨(b,false),nd,tt,p⟩ d):=by
 rw[pd]at hA;obtain⟨g,r,kg,e1,e2,e3,e5,e6,e7,i,E,p',hy,hp',hG,hE⟩:=wH hl4 lo (n:=n) d D hv hP hd t l b nd tt p hl hA hk hp;have hr:r.length<=l.length:=by rw[e1,tb];omega
 obtain⟨kx',f1,f2,i',E',p2,hy2,hp2,hG2,hE2⟩:=xd hl4 lo (n:=n) d D hv hP hd r.length r P.length _ i (nd++E) (tt+(g.length+1)) p' kg (J1 (jO t) g) (j1 _) e3 (fun t' h'=>hl t' (by rw[e1];simp[h'])) e7 (by omega) (by omega) hp' hG
 have el:b+(yZ t lo).length+(yI g lo).length+(yI r lo).length=b+(yZ t lo++yI l lo).length:=by
  rw[e1];simp[yI];omega
 rw[el]at hy2;refine⟨kx',?_,i',E++E',p2,?_,hp2,?_,hE.app hE2 (by rw[e1];simp[yI];omega)⟩
 ·by_cases hr0:r=[]
  ·have k1:=f2 hr0
   by_cases hg0:g=[]
   ·have:=e6 hg0
    rw[e1,hr0,hg0];constructor
    ·intro h;omega
    ·intro h;exact absurd rfl h
   ·have:=e5 hg0
    rw[e1,hr0];constructor
    ·intro _ h;exact hg0 (by simpa using h)
    ·intro _;omega
  ·have:=f1 hr0
   rw[e1];constructor
   ·intro _ h;exact hr0 (List.append_eq_nil_iff.1 h).2
   ·intro _;omega
 ·unfold aT
  rw[hy];simp only;rw[hy2];exact Uv rfl (by simp) (by rw[e1];simp only[tb];omega)
 ·have eo:YI none (jO t) l=zD7 (J1 (jO t) g) r:=by rw[e1,YH g _ _ _ e2 e3];rfl
  rw[eo,<-pd];exact hG2
variable {P:List PT}
theorem CV(ts:List zX)(lo:Bool):∀(l:List zX) (k:Nat),0<k->ts.drop k=l->((List.range l.length).flatMap fun j=>qS (k+j) (ts.getD (k+j) lI)++yZ (ts.getD (k+j) lI) lo)=yI l lo:=by
 intro l
 induction l with
 | nil=>intro k _ _;rfl
 | cons q r ih =>
   intro k hk hd
   have zE9:k<ts.length:=by
    rcases pf k ts.length with h|h
    ·exact h
    ·rw[p8 h]at hd;cases hd
   rw[pe zE9]at hd;injection hd with h1 h2
   have hg:ts.getD k lI=q:=by simp[List.getD,zE9,h1]
   rw[ty,List.range_succ_eq_map,ba,List.flatMap_map];have hi:=ih (k+1) (by omega) h2
   have e:((List.range r.length).flatMap fun j=>qS (k+(j+1)) (ts.getD (k+(j+1)) lI)++yZ (ts.getD (k+(j+1)) lI) lo)=yI r lo:=by
    rw[<-hi];congr 1;funext j;rw[show k+(j+1)=k+1+j by omega]
   show (qS (k+0) (ts.getD (k+0) lI)++yZ (ts.getD (k+0) lI) lo)++((List.range r.length).flatMap fun j=>qS (k+(j+1)) (ts.getD (k+(j+1)) lI)++yZ (ts.getD (k+(j+1)) lI) lo)=_;rw[e,mj,hg];have hs:qS k q=mV q:=by unfold qS mV;rw[t7 (by omega)];rfl
   simp[yI,hs]
theorem zy:kI (t::l) lo (t::l).length=yZ t lo++yI l lo:=by
 unfold kI;rw[ty,List.range_succ_eq_map,ba,List.flatMap_map];have h:=CV (t::l) lo l 1 (by decide) rfl
 have e:((List.range l.length).flatMap fun j=>qS (j+1) ((t::l).getD (j+1) lI)++yZ ((t::l).getD (j+1) lI) lo)=yI l lo:=by
  rw[<-h];congr 1;funext j;rw[Nat.add_comm]
 show (qS 0 t++yZ t lo)++((List.range l.length).flatMap fun j=>qS (j+1) ((t::l).getD (j+1) lI)++yZ ((t::l).getD (j+1) lI) lo)=_;rw[e];simp[qS]
theorem yf(q:zX)(l:List zX):q∈l->(yZ q lo).length<=(yI l lo).length:=by
 induction l with
 | nil=>intro h;cases h
 | cons a r ih =>
   intro hq;have e:yI (a::r) lo=mV a++yZ a lo++yI r lo:=by simp[yI]
   rw[e,tb,tb];rcases l3.1 hq with rfl|hq
   ·omega
   ·have:=ih hq;omega
theorem zAE:∀q∈t::l,(yZ q lo).length<=(yZ t lo++yI l lo).length:=by
 intro q hq;rw[tb];rcases l3.1 hq with rfl|hq
 ·omega
 ·have:=yf lo q l hq;omega
theorem CU:l.length<=(yI l lo).length:=by
 induction l with
 | nil=>simp
 | cons a r ih =>
   have e:yI (a::r) lo=mV a++yZ a lo++yI r lo:=by simp[yI]
   have:0<(mV a).length:=by unfold mV;split <;> simp
   rw[e,tb,tb,ty];omega
def F5(wh:Bool)(t:zX)(l:List zX):GX:=if wh=true then notX (decide (l≠[])) (YI none (jO t) l) else YI none (jO t) l
theorem F4{low:List Nat}(hl4:∀d∈low,d<4)(wh lo:Bool){t:zX}{l:List zX}(h:jS low (t::l))(hA:sP P a (bD wh (t::l) lo++[lW]))(zEE:a+(bD wh (t::l) lo).length<P.length) :
 ∃root nd p k,uM P (a,false)=(root,⟨(a+(bD wh (t::l) lo).length,false),nd,(l.length:Int)+1,p⟩)/\p<=4/\zA5 low nd root k (F5 wh t l)/\(∀z∈nd,kw low z)/\pD nd/\nd.length<=(bD wh (t::l) lo).length:=by
 have hP:0<P.length:=by omega
 have htl:=zAE t l lo;have hfw:=CU l lo;have hts:=zy t l lo;unfold bD at hA zEE ⊢;rw[hts]at hA zEE ⊢;cases wh
 ·have hi:iB false lo (t::l).length=false:=rfl
  rw[hi]at hA zEE ⊢;have e:((if false=true then [[110,111,116]] else [])++(if false=true then [[40]] else [])++(yZ t lo++yI l lo)++(if false=true then [[41]] else []):List Bs)=yZ t lo++yI l lo:=by simp
  rw[e]at hA zEE ⊢;have hlen2:=zEE;rw[tb]at hlen2;obtain⟨k,-,i,E,p',hy,hp',hG,hE⟩:=J2 hl4 lo (n:=P.length) 0 4 (.inl rfl) hP (by decide) t l a [] 0 0 (fun q hq=>⟨h.2.2 q hq,by have:=htl q hq;omega⟩) hA (by omega) (by decide);refine⟨i,E,p',k,?_,hp',hG,hE.1,hE.2.1 aL,hE.2.2⟩;show aT P (yU P P.length) ⟨(a,false),[],0,0⟩ 0=_;rw[hy];simp
 ·cases hi:iB true lo (t::l).length
  ·rw[hi]at hA zEE
   have hl0:l=[]:=by
    unfold iB at hi;rw[mh,ll]at hi;have:=of_decide_eq_false hi.2
    cases l with
    | nil=>rfl
    | cons x r=>exact absurd this (by simp)
   subst hl0;have e:((if true=true then [[110,111,116]] else [])++(if false=true then [[40]] else [])++(yZ t lo++yI [] lo)++(if false=true then [[41]] else []):List Bs)=xR::yZ t lo:=by simp[yI,xR]
   rw[e]at hA zEE ⊢;obtain⟨h0,hA1⟩:=hA;have hl1:(xR::yZ t lo).length=(yZ t lo).length+1:=rfl;rw[hl1]at zEE ⊢;obtain⟨n,hn⟩:∃k,P.length=k+1:=⟨P.length-1,by omega⟩;obtain⟨k,hk,i,E,p',hy,hp',hG,hE⟩:=wD hl4 (h.2.2 t (by simp)) lo (n:=n) [] 0 0 1 4 (.inl rfl) hA1 (by omega) hP (by decide) (by decide);have hend:=hA1.app.2.1
   have hf:yU P P.length ⟨(a,false),[],0,0⟩ 0=((((([]:List zM)++E).length:Nat):Int),⟨(a+1+(yZ t lo).length,false),([]++E)++[⟨3,i,0,[],[],[],0⟩],0+1,p'⟩):=by
    rw[hn,aO [] 0 0 0 h0 hy];rfl
   refine⟨((([]:List zM)++E).length:Nat),([]++E)++[⟨3,i,0,[],[],[],0⟩],p',3,?_,hp',fun A hO=>?_,fun z hz=>?_,KY (hE.2.1 aL) (sL hG).1 (sL hG).2,by have:=hE.2.2;simp only[ci,tb,ty,List.length_nil]at *;omega⟩
   ·show aT P (yU P P.length) ⟨(a,false),[],0,0⟩ 0=_
    rw[XG hP (sU hP hf hend (fun _=>by decide)) hend (fun _=>by decide)];rw[show a+1+(yZ t lo).length=a+((yZ t lo).length+1) by omega];rfl
   ·have:=hO.not _ _ _ _ (hG A hO)
    rw[tm (by omega)]at this;exact this
   ·rcases pt.1 hz with hz|hz
    ·exact hE.1 z hz
    ·rw[po.1 hz];exact .inl (.inr (.inr rfl))
  ·rw[hi]at hA zEE
   have e:((if true=true then [[110,111,116]] else [])++(if true=true then [[40]] else [])++(yZ t lo++yI l lo)++(if true=true then [[41]] else []):List Bs)=xR::xQ::(yZ t lo++yI l lo++[uV]):=by simp[xR,xQ,uV]
   rw[e]at hA zEE ⊢;obtain⟨h0,h1,hA1⟩:=hA;have hl1:(xR::xQ::(yZ t lo++yI l lo++[uV])).length=(yZ t lo++yI l lo).length+3:=by simp only[ty,tb,List.length_nil]
   rw[hl1]at zEE ⊢;obtain⟨hA2,hA3⟩:=sP.app (us:=[lW]) (ws:=yZ t lo++yI l lo++[uV]) hA1;have hsh:=hA2.app.2.1;have hend:=hA3.1;rw[show a+1+1+(yZ t lo++yI l lo++[uV]).length=a+((yZ t lo++yI l lo).length+3) by simp only[ty,tb,List.length_nil];omega]at hend;obtain⟨n,hn⟩:∃k,P.length=k+1+1:=⟨P.length-2,by omega⟩;have hlen2:=zEE;rw[tb]at hlen2;obtain⟨k,hk,i,E,p',hy,hp',hG,hE⟩:=J2 hl4 lo (n:=n) 2 4 (.inr rfl) hP (by decide) t l (a+1+1) [] 0 0 (fun q hq=>⟨h.2.2 q hq,by have:=htl q hq;omega⟩) hA2 (by omega) (by decide);have ho:=ZM (n:=n) [] 0 0 1 h1 hy hsh
   have hf:yU P P.length ⟨(a,false),[],0,0⟩ 0=((((([]:List zM)++E).length:Nat):Int),⟨(a+1+1+(yZ t lo++yI l lo).length+1,false),([]++E)++[⟨3,i,0,[],[],[],0⟩],0+((l.length:Int)+1),p'⟩):=by
    rw[hn,aO [] 0 0 0 h0 ho];rfl
   rw[show a+1+1+(yZ t lo++yI l lo).length+1=a+((yZ t lo++yI l lo).length+3) by omega]at hf;refine⟨((([]:List zM)++E).length:Nat),([]++E)++[⟨3,i,0,[],[],[],0⟩],p',3,?_,hp',fun A hO=>?_,fun z hz=>?_,KY (hE.2.1 aL) (sL hG).1 (sL hG).2,by have:=hE.2.2;simp only[ci,tb,ty,List.length_nil]at *;omega⟩
   ·show aT P (yU P P.length) ⟨(a,false),[],0,0⟩ 0=_
    rw[XG hP (sU hP hf hend (fun _=>by decide)) hend (fun _=>by decide)];rw[Int.zero_add]
   ·have:=hO.not _ _ _ _ (hG A hO)
    rw[decide_eq_decide.2 hk]at this;exact this
   ·rcases pt.1 hz with hz|hz
    ·exact hE.1 z hz
    ·rw[po.1 hz];exact .inl (.inr (.inr rfl))
theorem ve(N:List zM)(x:zM)(E:List zM):qR (N++[x]++E) N.length=x:=by
 unfold qR;simp[List.getD]
theorem iQ(i:Nat):(yG i).isEmpty=false:=by unfold yG xG;split <;> rfl
theorem uo(acc:Option GX)(c:GX):YI acc c []=YB acc c:=rfl
theorem F8(acc:Option GX)(c:GX)(t:zX)(r:List zX):YI acc c (t::r)=if t.or=true then YI (some (YB acc c)) (jO t) r else YI acc (G1 c (jO t)) r:=rfl
end Go.Proofs.YtnbpdffdnphbeabGreatDoor
